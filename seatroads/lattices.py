"""All stable matchings of a round, and the turns that lead from one to another."""

from seatroads.asking import likes_more
from seatroads.checks import is_integer, is_list
from seatroads.cycles import cycles
from seatroads.errors import BadNumber, BadTurns, NotStable
from seatroads.rounds import best, is_full, is_stable, last_of, would_take


def stable_ones(meeting):
    """The list of all stable matchings, each behind those ahead of it."""
    wishes = meeting.wishes()
    found = [matching for matching, _ in _all_ways(meeting)]
    return sorted(found, key=lambda matching: [wishes[name].index(matching[name])
                                               for name in wishes if name in matching])


def how_many_stable(meeting):
    """How many stable matchings there are."""
    return len(stable_ones(meeting))


def stable_number(meeting, matching):
    """The place of a stable matching among all of them."""
    _check_stable(meeting, matching)
    return stable_ones(meeting).index(matching)


def stable_at(meeting, number):
    """The stable matching at a place, None beyond the last one."""
    if not is_integer(number) or number < 0:
        raise BadNumber(number)
    found = stable_ones(meeting)
    return found[number] if number < len(found) else None


def can_pairs(meeting):
    """The ascending list of the pairs (person, kind) that some stable matching has."""
    return sorted(set([pair for matching in stable_ones(meeting) for pair in matching.items()]))


def sure_pairs(meeting):
    """The ascending list of the pairs (person, kind) that all stable matchings have."""
    # Whose best kind in a stable matching is their worst one has it in all of them.
    worst = best(meeting, "kinds")
    return [(name, kind) for name, kind in best(meeting).items() if worst[name] == kind]


def both_better(meeting, one, other):
    """The stable matching that gives each person the one of both kinds that they like more."""
    better, _ = _parted(meeting, one, other)
    return better


def both_worse(meeting, one, other):
    """The stable matching that gives each person the one of both kinds that they like less."""
    _, worse = _parted(meeting, one, other)
    return worse


def turns(meeting):
    """The ascending list of all turns of all stable matchings."""
    return _turns_done(_all_ways(meeting))


def needs(meeting):
    """For each turn the numbers of those that are done ahead of it on every way."""
    rows = [numbers for _, numbers in _numbered_ways(meeting)]
    # All turns together lead to the matching that is worst for people.
    many = max([len(numbers) for numbers in rows])
    return [_shared([numbers for numbers in rows if turn in numbers], turn) for turn in range(many)]


def turned(meeting, numbers):
    """The matching behind the turns with these numbers."""
    if is_list(numbers) and all([is_integer(number) for number in numbers]):
        for matching, done in _numbered_ways(meeting):
            if done == sorted(numbers):
                return matching
    raise BadTurns(numbers)


def _check_stable(meeting, matching):
    if not is_stable(meeting, matching):
        raise NotStable(matching)


def _all_ways(meeting):
    """The pairs of each stable matching and the list of the turns that lead to it from the best one."""
    start = best(meeting)
    found = {tuple(start.items()): (start, [])}
    ahead = [(start, [])]
    while ahead:
        matching, done = ahead.pop()
        for turn in _turns_of(meeting, matching):
            later = dict(matching)
            for name, _, kind in turn:
                later[name] = kind
            if tuple(later.items()) not in found:
                found[tuple(later.items())] = (later, done + [turn])
                ahead.append((later, done + [turn]))
    return list(found.values())


def _numbered_ways(meeting):
    """The same with the ascending numbers of the turns."""
    ways = _all_ways(meeting)
    all_turns = _turns_done(ways)
    return [(matching, sorted([all_turns.index(turn) for turn in done])) for matching, done in ways]


def _turns_done(ways):
    """The ascending list of the turns that ways have."""
    return sorted(set([turn for _, done in ways for turn in done]))


def _turns_of(meeting, matching):
    """The turns of one stable matching."""
    kinds, behind = {}, {}
    for name in matching:
        kind = _next_kind(meeting, matching, name)
        if kind is not None and is_full(meeting, matching, kind):
            kinds[name] = kind
            behind[name] = last_of(meeting, matching, kind)
    return [tuple([(name, matching[name], kinds[name]) for name in row]) for row in cycles(behind)]


def _next_kind(meeting, matching, name):
    """The first kind behind a person's own that would take them, None if there is none."""
    wishes = meeting.wishes()[name]
    for kind in wishes[wishes.index(matching[name]) + 1:]:
        if would_take(meeting, matching, kind, name):
            return kind
    return None


def _shared(rows, turn):
    """What stands in all rows but the turn itself."""
    return tuple([number for number in rows[0] if number != turn and all([number in row for row in rows])])


def _parted(meeting, one, other):
    """The better and the worse kinds of both matchings for each person."""
    _check_stable(meeting, one)
    _check_stable(meeting, other)
    wishes = meeting.wishes()
    better, worse = {}, {}
    for name in sorted(one):
        pair = (one[name], other[name])
        if likes_more(wishes[name], pair[1], pair[0]):
            pair = (pair[1], pair[0])
        better[name], worse[name] = pair
    return better, worse
