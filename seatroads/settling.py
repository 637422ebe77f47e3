"""Settling: which items of queues are paid, and why others wait."""

from itertools import combinations

from seatroads.checks import is_integer, is_list, is_name
from seatroads.errors import BadName, BadNumber, NotFeasible
from seatroads.queues import Queues
from seatroads.waits import Waits


def is_feasible(queues, thing):
    """Whether it is a list of unlike numbers of items that are feasible together."""
    if not is_list(thing) or not all([_is_number(queues, number) for number in thing]):
        return False
    return len(set(thing)) == len(thing) and _is_feasible(queues, list(thing))


def paid(queues):
    """The ascending list of the items of the greatest feasible set."""
    waiting = [number for number, _ in paper(queues)]
    return [number for number in range(len(queues)) if number not in waiting]


def holdings_after(queues, numbers):
    """What members hold behind a feasible set."""
    _check_feasible(queues, numbers)
    held = queues.holdings()
    items = queues.all_items()
    for number in numbers:
        for giver, thing, many, taker in items[number]:
            _hand_over(held, giver, thing, -many)
            _hand_over(held, taker, thing, many)
    return Queues(held, []).holdings()


def in_turn(queues):
    """The ascending list of the items that go one after another, without waiting for one another."""
    gone = []
    following = _next_in_turn(queues, gone)
    while following is not None:
        gone.append(following)
        following = _next_in_turn(queues, gone)
    return sorted(gone)


def bundles(queues, numbers):
    """All least sets of further items with which a feasible set is feasible."""
    _check_feasible(queues, numbers)
    gone = list(numbers)
    left = [number for number in range(len(queues)) if number not in gone]
    found = []
    for many in range(1, len(left) + 1):
        for chosen in combinations(left, many):
            if not any([_has_all(chosen, bundle) for bundle in found]) and _is_feasible(queues, gone + list(chosen)):
                found.append(chosen)
    return found


def paper(queues):
    """A paper that tells just the items that are not paid."""
    waits = Waits(queues)
    found = []
    told = _tell_some(queues, waits)
    while told:
        found.extend(told)
        told = _tell_some(queues, waits)
    return found


def is_paper(queues, thing):
    """Whether it is a paper that tells why items wait."""
    if not is_list(thing):
        return False
    waits = Waits(queues)
    for pair in thing:
        if not is_list(pair) or len(pair) != 2 or not _is_number(queues, pair[0]):
            return False
        if waits.is_aside(pair[0]) or not _is_reason(queues, waits, pair[0], pair[1]):
            return False
        waits.set_aside(pair[0])
    return True


def freed_by(queues, number, member, thing):
    """The least number that frees an item if a member holds so many more of a thing, None if none does."""
    _check_number(queues, number)
    # With as many more as are given in all the member is never short, so yet more are of no use.
    low = 0
    high = sum([leg[2] for item in queues.all_items() for leg in item])
    if number not in paid(queues.given(member, thing, high)):
        return None
    while low < high:
        middle = (low + high) // 2
        if number in paid(queues.given(member, thing, middle)):
            high = middle
        else:
            low = middle + 1
    return low


def least_freed(queues, number, thing):
    """The least sum of a thing that frees an item if it is given to members, and such shares."""
    _check_number(queues, number)
    if not is_name(thing):
        raise BadName(thing)
    others = [other for other in range(len(queues)) if other != number]
    least = None
    for many in range(len(others) + 1):
        for aside in combinations(others, many):
            shares = _shares(queues, aside, thing)
            if shares is not None and (least is None or sum(list(shares.values())) < least[0]):
                least = (sum(list(shares.values())), shares)
    return least


def _is_number(queues, thing):
    """Whether it is the number of an item."""
    return is_integer(thing) and 0 <= thing < len(queues)


def _check_number(queues, number):
    if not _is_number(queues, number):
        raise BadNumber(number)


def _check_feasible(queues, numbers):
    if not is_feasible(queues, numbers):
        raise NotFeasible(numbers)


def _is_feasible(queues, numbers):
    """Whether items, told as unlike numbers, are feasible together."""
    waits = Waits(queues)
    for number in range(len(queues)):
        if number not in numbers:
            waits.set_aside(number)
    return all([waits.why(number) is None for number in numbers])


def _next_in_turn(queues, gone):
    """The first item with which alone a feasible set is feasible, None if there is none."""
    for number in range(len(queues)):
        if number not in gone and _is_feasible(queues, gone + [number]):
            return number
    return None


def _has_all(chosen, bundle):
    return all([number in chosen for number in bundle])


def _hand_over(held, member, thing, many):
    things = held.setdefault(member, {})
    things[thing] = things.get(thing, 0) + many


def _tell_some(queues, waits):
    """Set aside, one after another, items that wait now; the pairs of them and why."""
    told = []
    for number in range(len(queues)):
        why = None if waits.is_aside(number) else waits.why(number)
        if why is not None:
            waits.set_aside(number)
            told.append((number, why))
    return told


def _is_reason(queues, waits, number, thing):
    """Whether it tells why the item waits, by what is set aside."""
    if not is_list(thing) or len(thing) == 0:
        return False
    if thing[0] == "behind":
        return len(thing) == 2 and _is_number(queues, thing[1]) and waits.is_behind(number, thing[1])
    if thing[0] == "short" and len(thing) == 3:
        return number in queues.queue(thing[1], thing[2]) and waits.is_short(number, thing[1], thing[2])
    return False


def _shares(queues, aside, thing):
    """What members lack of a thing to pay all items but those set aside, None if more lacks."""
    waits = Waits(queues)
    for number in aside:
        waits.set_aside(number)
    return waits.lacks(thing)
