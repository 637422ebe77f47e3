"""Exchanges: people who hold places, others who wait, and the rings in which places go."""

from seatroads.checks import frozen, is_integer, is_list, is_name
from seatroads.cycles import cycles
from seatroads.errors import BadFree, BadHolds, BadKind, BadRank, BadWay, BadWishes, NoPerson


class Exchange:
    """Who holds and who wishes which kinds, how kinds rank people, and what stands free."""

    def __init__(self, ranks, holds, wishes, free):
        people = _people_of(ranks)
        kinds = sorted(ranks)
        _check_holds(holds, people, kinds)
        _check_wishes(wishes, people, kinds, holds)
        _check_free(free, kinds)
        self._people = people
        self._ranks = {kind: tuple(ranks[kind]) for kind in kinds}
        self._holds = {name: holds[name] for name in sorted(holds)}
        self._wishes = {name: tuple(wishes.get(name, ())) for name in people}
        self._free = {kind: free.get(kind, 0) for kind in kinds}

    def people(self):
        """The ascending list of the people."""
        return list(self._people)

    def kinds(self):
        """The ascending list of the kinds."""
        return list(self._ranks)

    def ranks(self):
        """The ascending dict from the kinds to all people, in the order of the kind."""
        return dict(self._ranks)

    def holds(self):
        """The ascending dict from the people who hold a place to its kind."""
        return dict(self._holds)

    def wishes(self):
        """The ascending dict from all people to the kinds that they would rather have, best first."""
        return dict(self._wishes)

    def free(self):
        """The ascending dict from all kinds to how many free places there are."""
        return dict(self._free)

    def places(self, kind):
        """How many places of a kind are held and free together."""
        if kind not in self.kinds():
            raise BadKind(kind)
        return list(self._holds.values()).count(kind) + self._free[kind]

    def with_wishes(self, person, wishes):
        """The exchange with other wishes of one person."""
        if person not in self._people:
            raise NoPerson(person)
        if not _is_wishes(wishes, self.kinds(), self._holds.get(person)):
            raise BadWishes(person)
        others = self.wishes()
        others[person] = wishes
        return Exchange(self._ranks, self._holds, others, self._free)

    def __eq__(self, other):
        if not isinstance(other, Exchange) or self._ranks != other._ranks or self._holds != other._holds:
            return False
        return self._wishes == other._wishes and self._free == other._free


def rings(exchange, way=()):
    """The ascending list of the rings that are there behind a way."""
    if not is_list(way):
        raise BadWay(0)
    gone = []
    for index, ring in enumerate(way):
        if frozen(ring) not in _rings_there(exchange, gone):
            raise BadWay(index)
        gone.append(frozen(ring))
    return _rings_there(exchange, gone)


def is_way(exchange, thing):
    """Whether it is a whole way."""
    try:
        return not rings(exchange, thing)
    except BadWay:
        return False


def way(exchange):
    """The whole way by which again and again all rings that are there go, ascending."""
    gone = []
    there = _rings_there(exchange, gone)
    while there:
        gone.extend(there)
        there = _rings_there(exchange, gone)
    return gone


def how_many_ways(exchange):
    """How many whole ways there are."""
    # What is there does not hang on the order in which the same rings went.
    ways = {(): 1}
    while True:
        later = {}
        for gone in ways:
            for ring in _rings_there(exchange, gone):
                more = tuple(sorted(gone + (ring,), key=lambda one: one[0][0]))
                later[more] = later.get(more, 0) + ways[gone]
        if not later:
            return sum(list(ways.values()))
        ways = later


def outcome(exchange):
    """The ascending dict from all people to the kinds that they come to have, or None."""
    pairs = [pair for ring in way(exchange) for pair in ring]
    return {name: kind for name, kind in sorted(pairs, key=lambda pair: pair[0])}


def _rings_there(exchange, gone):
    """The ascending list of the rings that are there when some are gone, in whatever order they went."""
    gone_pairs = [pair for ring in gone for pair in ring]
    left = [name for name in exchange.people() if name not in [pair[0] for pair in gone_pairs]]
    taken = [pair[1] for pair in gone_pairs]
    kinds = [kind for kind in exchange.kinds() if taken.count(kind) < exchange.places(kind)]
    pointed = {kind: _who_is_pointed_at(exchange, kind, left) for kind in kinds}
    points = {name: _what_is_pointed_at(exchange, name, kinds) for name in left}
    rows = cycles({name: pointed[points[name]] for name in left if points[name] is not None})
    found = [tuple([(name, points[name]) for name in row]) for row in rows]
    found.extend([((name, None),) for name in left if points[name] is None])
    return sorted(found, key=lambda ring: ring[0][0])


def _who_is_pointed_at(exchange, kind, left):
    """The first in the rank of a kind of those left who hold it, or of all left if nobody does."""
    holds = exchange.holds()
    holders = [name for name in left if holds.get(name) == kind]
    for name in exchange.ranks()[kind]:
        if name in (holders or left):
            return name
    return None


def _what_is_pointed_at(exchange, name, kinds):
    """The first wish of a person among the kinds, else the kind that they hold, or None."""
    for kind in exchange.wishes()[name]:
        if kind in kinds:
            return kind
    return exchange.holds().get(name)


def _people_of(ranks):
    """The ascending list of the people of ranks; BadRank if they are none."""
    if not isinstance(ranks, dict):
        raise BadRank(ranks)
    people = None
    for kind in ranks:
        if not is_name(kind) or not _is_row(ranks[kind]):
            raise BadRank(kind)
        if people is not None and sorted(ranks[kind]) != people:
            raise BadRank(kind)
        people = sorted(ranks[kind])
    return people or []


def _is_row(thing):
    """Whether it is a list of unlike names."""
    return is_list(thing) and all([is_name(name) for name in thing]) and len(set(thing)) == len(thing)


def _check_holds(holds, people, kinds):
    if not isinstance(holds, dict):
        raise BadHolds(holds)
    for name in holds:
        if name not in people or holds[name] not in kinds:
            raise BadHolds(name)


def _check_wishes(wishes, people, kinds, holds):
    if not isinstance(wishes, dict):
        raise BadWishes(wishes)
    for name in wishes:
        if name not in people or not _is_wishes(wishes[name], kinds, holds.get(name)):
            raise BadWishes(name)


def _is_wishes(thing, kinds, own):
    """Whether it is a list of unlike ones of the kinds, without the own one."""
    if not is_list(thing) or not all([kind in kinds and kind != own for kind in thing]):
        return False
    return len(set(thing)) == len(thing)


def _check_free(free, kinds):
    if not isinstance(free, dict):
        raise BadFree(free)
    for kind in free:
        if kind not in kinds or not is_integer(free[kind]) or free[kind] < 0:
            raise BadFree(kind)
