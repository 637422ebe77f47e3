"""Rounds: people and free places that meet, and what is stable among them."""

from seatroads.asking import best_for_kinds, best_for_people, last_in_rank, likes_more, people_ask
from seatroads.checks import frozen, is_integer, is_list
from seatroads.errors import BadFree, BadKind, BadMatching, BadPerson, BadSide
from seatroads.events import is_event
from seatroads.ranking import names_in_rank


class Meeting:
    """The people and the free places of an office that meet at a round."""

    def __init__(self, office, people, free):
        _check_people(office, people)
        _check_free(office, free)
        self.office = office
        self._people = list(frozen(people))
        self._free = {kind: free[kind] for kind in sorted(free) if free[kind] > 0}
        timed = [person + (place,) for place, person in enumerate(self._people)]
        self._ranks = {kind: names_in_rank(office, kind, timed) for kind in office.kinds()}

    def people(self):
        """The list of the people (name, wishes, points, home), in the order in which they came."""
        return list(self._people)

    def free(self):
        """The ascending dict of the numbers of free places, without noughts."""
        return dict(self._free)

    def ranked(self, kind):
        """The names of the people who let a kind, the first in its rank first."""
        if kind not in self.office:
            raise BadKind(kind)
        return list(self._ranks[kind])

    def wishes(self):
        """The dict from the names of the people, in the order in which they came, to their wishes."""
        return {person[0]: person[1] for person in self._people}

    def ranks(self):
        """The dict from all kinds of the office to what ranked tells of them."""
        return {kind: list(self._ranks[kind]) for kind in self._ranks}

    def __eq__(self, other):
        if not isinstance(other, Meeting) or self.office != other.office:
            return False
        return self._people == other._people and self._free == other._free


def would_rather(meeting, matching):
    """The pairs (person, kind) that would rather have one another than what they have."""
    if not is_matching(meeting, matching):
        raise BadMatching(matching)
    wishes = meeting.wishes()
    return [(name, kind) for name in wishes for kind in wishes[name]
            if likes_more(wishes[name], kind, matching.get(name)) and would_take(meeting, matching, kind, name)]


def is_stable(meeting, thing):
    """Whether it is a stable matching of the round."""
    return is_matching(meeting, thing) and not would_rather(meeting, thing)


def best(meeting, side="people"):
    """The stable matching that is best for one side."""
    if side == "people":
        given = best_for_people(meeting.wishes(), meeting.ranks(), meeting.free())
    elif side == "kinds":
        given = best_for_kinds(meeting.wishes(), meeting.ranks(), meeting.free())
    else:
        raise BadSide(side)
    return {name: given[name] for name in sorted(given)}


def refusals(meeting):
    """A paper of refusals that leaves to each person the kind that they have in the best matching."""
    _, refused = people_ask(meeting.wishes(), meeting.ranks(), meeting.free())
    return refused


def is_refusals(meeting, thing):
    """Whether it is a paper of refusals."""
    if not is_list(thing):
        return False
    wishes = meeting.wishes()
    refused = []
    for triple in thing:
        if not _is_refusal(meeting, triple):
            return False
        name, kind, others = triple
        for other in others:
            better = wishes[other][:wishes[other].index(kind)]
            if not all([(other, one) in refused for one in better]):
                return False
        refused.append((name, kind))
    return True


def is_person(office, thing):
    """Whether it is a tuple (name, wishes, points, home) of the office."""
    return is_list(thing) and is_event(office, ("come",) + tuple(thing))


def is_matching(meeting, thing):
    """Whether it is a matching of the round."""
    if not isinstance(thing, dict):
        return False
    wishes = meeting.wishes()
    for name in thing:
        if name not in wishes or thing[name] not in wishes[name]:
            return False
    free = meeting.free()
    kinds = list(thing.values())
    return all([kinds.count(kind) <= free.get(kind, 0) for kind in kinds])


def would_take(meeting, matching, kind, name):
    """Whether a kind has a place that nobody has, or ranks a person ahead of its last one."""
    if not is_full(meeting, matching, kind):
        return True
    last = last_of(meeting, matching, kind)
    rank = meeting.ranked(kind)
    return last is not None and rank.index(name) < rank.index(last)


def is_full(meeting, matching, kind):
    """Whether a kind has no place that nobody has."""
    return list(matching.values()).count(kind) == meeting.free().get(kind, 0)


def last_of(meeting, matching, kind):
    """The last one, in its rank, whom a kind has; None if it has nobody."""
    holders = [name for name in matching if matching[name] == kind]
    if not holders:
        return None
    return last_in_rank(meeting.ranked(kind), holders)


def _check_people(office, people):
    if not is_list(people):
        raise BadPerson(0)
    told = set()
    for index, person in enumerate(people):
        if not is_person(office, person) or person[0] in told:
            raise BadPerson(index)
        told.add(person[0])


def _check_free(office, free):
    if not isinstance(free, dict):
        raise BadFree(free)
    for kind in free:
        if kind not in office or not is_integer(free[kind]) or free[kind] < 0:
            raise BadFree(kind)


def _is_refusal(meeting, thing):
    """Whether a triple tells others enough who are all ahead of a person for a kind that they let."""
    if not is_list(thing) or len(thing) != 3:
        return False
    name, kind, others = thing
    if kind not in meeting.office or not is_list(others) or len(others) != meeting.free().get(kind, 0):
        return False
    rank = meeting.ranked(kind)
    if name not in rank:
        return False
    ahead = rank[:rank.index(name)]
    return all([other in ahead for other in others]) and len(set(others)) == len(others)
