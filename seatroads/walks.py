"""What one person or one place more, or other wishes, would do to a round."""

from itertools import combinations

from seatroads.asking import last_in_rank
from seatroads.errors import BadKind, BadPerson, BadWishes, NoPerson
from seatroads.events import is_wishes
from seatroads.rounds import Meeting, best, is_full, is_person


def one_more(meeting, person):
    """The walk through the best matching of a further person who came last, and its token."""
    if not is_person(meeting.office, person) or person[0] in meeting.wishes():
        raise BadPerson(0)
    fuller = Meeting(meeting.office, meeting.people() + [person], meeting.free())
    wishes = fuller.wishes()
    given = best(meeting)
    walk = []
    name = person[0]
    left = list(wishes[name])
    while left:
        kind = left.pop(0)
        other = _who_goes(fuller, given, kind, name)
        walk.append((name, kind, other))
        if other is None:
            return walk, ("taken", kind)
        if other != name:
            del given[other]
            given[name] = kind
            name = other
            left = list(wishes[name][wishes[name].index(kind) + 1:])
    return walk, ("waits", name)


def one_more_place(meeting, kind):
    """Who has another kind in the best matching with one place more of a kind, and its token."""
    if kind not in meeting.office:
        raise BadKind(kind)
    free = meeting.free()
    free[kind] = free.get(kind, 0) + 1
    roomier = Meeting(meeting.office, meeting.people(), free)
    before, then = best(meeting), best(roomier)
    moves = {name: (before.get(name), then[name]) for name in then if before.get(name) != then[name]}
    for name in moves:
        if name not in before:
            return moves, ("placed", name)
    return moves, ("free", _one_more_free(before, then, kind))


def told_otherwise(meeting, name, wishes):
    """The kind that a person would have in the best matching by these wishes, None for none."""
    _check_person(meeting, name)
    if not is_wishes(meeting.office, wishes):
        raise BadWishes(wishes)
    return best(_with_wishes(meeting, name, wishes)).get(name)


def told_less(meeting, name):
    """The kinds that a person can come to have by some of their wishes where kinds choose."""
    _check_person(meeting, name)
    wishes = list(meeting.wishes()[name])
    had = [best(_with_wishes(meeting, name, some), "kinds").get(name)
           for many in range(len(wishes) + 1) for some in combinations(wishes, many)]
    return [kind for kind in wishes if kind in had]


def _check_person(meeting, name):
    if not isinstance(name, str) or name not in meeting.wishes():
        raise NoPerson(name)


def _who_goes(meeting, given, kind, name):
    """Who goes if a person asks a kind: None if a place is free, its last one, or the person."""
    if not is_full(meeting, given, kind):
        return None
    holders = [other for other in given if given[other] == kind]
    return last_in_rank(meeting.ranked(kind), holders + [name])


def _one_more_free(before, then, kind):
    """The kind that fewer people have than before, the one with a place more if there is none."""
    had, have = list(before.values()), list(then.values())
    for other in had:
        if have.count(other) < had.count(other):
            return other
    return kind


def _with_wishes(meeting, name, wishes):
    """The meeting in which one person has other wishes."""
    people = [(person[0], wishes, person[2], person[3]) if person[0] == name else person
              for person in meeting.people()]
    return Meeting(meeting.office, people, meeting.free())
