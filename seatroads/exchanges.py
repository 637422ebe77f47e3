"""Exchanges judged: who could better an outcome, on whom it hangs, and what is paid for it."""

from seatroads.checks import is_integer
from seatroads.cycles import shortest_cycle
from seatroads.errors import BadCoins, BadFee, BadOutcome, NoPerson
from seatroads.likings import comes_to_have, is_outcome, would_rather_have
from seatroads.queues import Queues
from seatroads.ranking import people_in_rank
from seatroads.rings import Exchange, rings

OFFICE = "office"


def bettered(exchange, outcome):
    """A row of as few people as can be who together better an outcome, None if nobody can."""
    _check_outcome(exchange, outcome)
    left = _left_by(exchange, outcome)
    # Of a row that ends at a place that is left, its last person alone is one already.
    people = exchange.people()
    for name in people:
        for kind in left:
            if would_rather_have(exchange, name, kind, outcome[name]):
                return (name,), kind
    row = shortest_cycle({name: _liked_more(exchange, name, outcome[name], outcome) for name in people})
    return None if row is None else (tuple(row), None)


def group(exchange, outcome):
    """As few people as can be who would rather exchange what they hold than have an outcome, None for nobody."""
    _check_outcome(exchange, outcome)
    holds = exchange.holds()
    row = shortest_cycle({name: _liked_more(exchange, name, outcome[name], holds) for name in holds})
    return None if row is None else tuple(row)


def options(exchange, person):
    """All kinds, None among them, that a person can come to have by some wishes of theirs."""
    _check_person(exchange, person)
    own = exchange.holds().get(person)
    row = list(exchange.wishes()[person]) + [own]
    row.extend([kind for kind in exchange.kinds() if kind not in row])
    return [kind for kind in row if kind == own or _gets_by_wishing(exchange, person, kind)]


def hangs(exchange, person):
    """The other people by whose wishes alone a person can come to have something else."""
    _check_person(exchange, person)
    others = [other for other in exchange.people() if other != person]
    return [other for other in others if otherwise(exchange, person, other) is not None]


def otherwise(exchange, person, other):
    """Wishes of another one by which a person comes to have something else, None if there are none."""
    _check_person(exchange, person)
    _check_person(exchange, other)
    had = comes_to_have(exchange, person)
    own = exchange.holds().get(other)
    # The others' rings do not hang on how the other one comes to the kind that they get, so
    # it is enough to let them wish each kind alone, or nothing.
    for wishes in [()] + [(kind,) for kind in exchange.kinds() if kind != own]:
        if comes_to_have(exchange.with_wishes(other, wishes), person) != had:
            return wishes
    return None


def exchange_of(run, time):
    """The exchange of those who were placed up to a time, and of those who wait then."""
    free = run.free(time)
    office = run.whole.office
    if len(office) == 0:
        return Exchange({}, {}, {}, {})
    placed = run.placed(time)
    waiting = run.people(time)
    wishes = {person[0]: person[1][:person[1].index(kind)] for person, kind in placed}
    wishes.update({person[0]: person[1] for person in waiting})
    people = [person for person, _ in placed] + waiting
    ranks = {kind: [person[0] for person in people_in_rank(office, kind, people)] for kind in office.kinds()}
    return Exchange(ranks, {person[0]: kind for person, kind in placed}, wishes, free)


def items_of(exchange, way, table):
    """The items by which the rings of a way give places, and fees for them."""
    # This tells whether it is a way.
    rings(exchange, way)
    _check_table(exchange, table)
    return [tuple([leg for name, kind in ring for leg in _legs(exchange, name, kind, table)]) for ring in way]


def queues_of(exchange, way, table, coins):
    """The queues of the items of a way, where people have coins."""
    items = items_of(exchange, way, table)
    _check_coins(exchange, coins)
    holdings = {name: {} for name in exchange.people()}
    for name, kind in exchange.holds().items():
        holdings[name][kind] = 1
    holdings[OFFICE] = exchange.free()
    for name in coins:
        holdings[name]["coin"] = coins[name]
    return Queues(holdings, items)


def _check_outcome(exchange, outcome):
    if not is_outcome(exchange, outcome):
        raise BadOutcome(outcome)


def _check_person(exchange, person):
    if person not in exchange.people():
        raise NoPerson(person)


def _left_by(exchange, outcome):
    """The kinds of which an outcome leaves a place."""
    given = list(outcome.values())
    return [kind for kind in exchange.kinds() if given.count(kind) < exchange.places(kind)]


def _liked_more(exchange, name, kind, has):
    """Those of some people who have what a person would rather have than a kind, ascending."""
    return [other for other in sorted(has) if would_rather_have(exchange, name, has[other], kind)]


def _gets_by_wishing(exchange, person, kind):
    """Whether a person comes to have a kind, not the one that they hold, by wishing it alone."""
    return comes_to_have(exchange.with_wishes(person, [kind]), person) == kind


def _legs(exchange, name, kind, table):
    """The legs by which somebody comes to have a kind, none if they hold it, or nothing as before."""
    own = exchange.holds().get(name)
    if kind == own:
        return []
    legs = []
    if own is not None:
        legs.append((name, own, 1, OFFICE))
    legs.append((OFFICE, kind, 1, name))
    legs.append((name, "coin", table.get(kind, 0), OFFICE))
    legs.append((OFFICE, "coin", table.get(own, 0), name))
    return [leg for leg in legs if leg[2] > 0]


def _check_table(exchange, table):
    if not isinstance(table, dict):
        raise BadFee(table)
    for kind in table:
        if kind not in exchange.kinds() or not _is_many(table[kind]):
            raise BadFee(kind)


def _check_coins(exchange, coins):
    if not isinstance(coins, dict):
        raise BadCoins(coins)
    for name in coins:
        if name not in exchange.people() + [OFFICE] or not _is_many(coins[name]):
            raise BadCoins(name)


def _is_many(thing):
    return is_integer(thing) and thing >= 0
