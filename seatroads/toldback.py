"""What letters tell of the wishes that nobody told."""

from math import comb, factorial

from seatroads.checks import is_integer
from seatroads.errors import BadKind, BadNumber, BadWishes, NoPerson, NotAsked
from seatroads.events import is_wishes


def known_of(told, time):
    """What is sure of the wishes of an asked time: (let, barred, first, behind)."""
    _check_asked(told, time)
    stretch = told.story().stretches()[time]
    return _kinds_of(stretch.let), _kinds_of(stretch.barred), stretch.at_once, stretch.behind


def clash(told):
    """The least tuple (last, time, kind, let, barred) of a kind that must be let and must not, None without one."""
    stretches = told.story().stretches()
    found = [(max(let, barred), time, kind, let, barred)
             for time in stretches for kind, let in stretches[time].let
             for other, barred in stretches[time].barred if other == kind]
    return min(found) if found else None


def how_many_told(told):
    """How many dicts of wishes explain what is told."""
    many = 1
    for time in told.asked():
        many *= how_many_at(told, time)
    return many


def how_many_at(told, time):
    """How many lists of wishes can stand at an asked time."""
    known = known_of(told, time)
    return sum([_how_many(told, known, (), length) for length in range(len(told.office) + 1)])


def wishes_at(told, time, number):
    """The list of wishes with a number among those of an asked time, None beyond."""
    known = known_of(told, time)
    if not is_integer(number) or number < 0:
        raise BadNumber(number)
    left = number
    for length in range(len(told.office) + 1):
        many = _how_many(told, known, (), length)
        if left < many:
            return _list_at(told, known, length, left)
        left -= many
    return None


def wish_number(told, time, wishes):
    """The number of a list of wishes among those of an asked time."""
    known = known_of(told, time)
    if not is_wishes(told.office, wishes) or _how_many(told, known, tuple(wishes), len(wishes)) == 0:
        raise BadWishes(wishes)
    number = sum([_how_many(told, known, (), length) for length in range(len(wishes))])
    for place, kind in enumerate(wishes):
        for lesser in told.office.kinds():
            if lesser < kind:
                number += _how_many(told, known, tuple(wishes[:place]) + (lesser,), len(wishes))
    return number


def least_wishes(told):
    """The dict from the asked times to the wishes with number 0, None if nothing explains what is told."""
    if clash(told) is not None:
        return None
    return {time: wishes_at(told, time, 0) for time in told.asked()}


def may_get(told, kind):
    """Who can get a place of a kind that comes behind all that is told; None if it can stand free."""
    if kind not in told.office:
        raise BadKind(kind)
    if clash(told) is not None:
        return []
    return _not_barred(told, kind) + [None]


def would_tell(told, kind, name):
    """What would be sure of wishes if somebody got a place of a kind then, or if it stood free."""
    if name not in may_get(told, kind):
        raise NoPerson(name)
    story = told.story()
    row = _not_barred(told, kind)
    sure = []
    if name is not None:
        row = row[:row.index(name)]
        sure.append((story.asked_of(name), kind, True))
    return sorted(sure + [(story.asked_of(other), kind, False) for other in row])


def _check_asked(told, time):
    if not is_integer(time) or time not in told.asked():
        raise NotAsked(time)


def _kinds_of(pairs):
    """The ascending tuple of the kinds of pairs."""
    return tuple(sorted(set([kind for kind, _ in pairs])))


def _not_barred(told, kind):
    """The names of those who wait in the end and are not known not to let a kind, the first in its rank first."""
    story = told.story()
    stretches = story.stretches()
    return [name for name in story.in_rank(kind)
            if kind not in _kinds_of(stretches[story.asked_of(name)].barred)]


def _how_many(told, known, begun, length):
    """How many lists of wishes of a length begin with these kinds."""
    let, barred, first, behind = known
    if any([kind in barred for kind in let + begun]) or len(set(begun)) < len(begun):
        return 0
    left = length - len(begun)
    lacking = [kind for kind in let if kind not in begun]
    others = [kind for kind in told.office.kinds() if kind not in let + barred + begun]
    if left < len(lacking):
        return 0
    if first is None or first in begun:
        if first is not None and any([kind in behind for kind in begun[:begun.index(first)]]):
            return 0
        return comb(len(others), left - len(lacking)) * factorial(left)
    if any([kind in behind for kind in begun]):
        return 0
    late = [kind for kind in others if kind in behind]
    # Of so many kinds, each is as often the first one in all orders of them.
    return sum([comb(len(late), many) * comb(len(others) - len(late), left - 1 - many) * factorial(left) // (many + 1)
                for many in range(min(len(late), left - 1) + 1)])


def _list_at(told, known, length, number):
    """The list of wishes with a number among those of a length."""
    begun = ()
    left = number
    while len(begun) < length:
        for kind in told.office.kinds():
            many = _how_many(told, known, begun + (kind,), length)
            if left < many:
                begun = begun + (kind,)
                break
            left -= many
    return begun
