"""Rows of events held against one another, whatever waits and stands free ahead of them."""

from seatroads.errors import NoPerson
from seatroads.checks import frozen
from seatroads.halls import check_row
from seatroads.partings import least_hall


def alike(office, one, other):
    """Whether two rows come to equal ends behind every hall."""
    return parting(office, one, other) is None


def parting(office, one, other):
    """A least hall behind which two rows come to unlike ends, None if there is none."""
    check_row(office, one)
    check_row(office, other)
    return least_hall(office, one, other, _are_unlike)


def worse_behind(office, one, other, name):
    """A least hall behind which a person gets less by the one row, None if there is none."""
    check_row(office, one)
    check_row(office, other)
    wishes = _wishes_of(name, one, other)

    def is_worse(one_end, other_end, kinds):
        return _place_in(wishes, one_end.got.get(name)) > _place_in(wishes, other_end.got.get(name))

    return least_hall(office, one, other, is_worse)


def swaps(office, row):
    """The numbers of the events that can be exchanged with the next one."""
    check_row(office, row)
    return [number for number in range(len(row) - 1) if alike(office, row, _swapped(row, number))]


def needless(office, row):
    """The numbers of the events without any one of which the row is alike to the whole one."""
    check_row(office, row)
    return [number for number in range(len(row)) if alike(office, row, _without(row, number))]


def _are_unlike(one_end, other_end, kinds):
    """Whether ends are unlike: those of the rows' own people, or what the guests get."""
    return not one_end == other_end or any([one != other for one, other in kinds])


def _wishes_of(name, one, other):
    """The wishes of a person who comes in both rows by equal events; NoPerson if nobody is called so."""
    for event in one:
        if event[0] == "come" and event[1] == name and frozen(event) in [frozen(thing) for thing in other]:
            return list(event[2])
    raise NoPerson(name)


def _place_in(wishes, kind):
    """How far behind a kind stands in wishes; none, and one that is not wished, is behind all."""
    return wishes.index(kind) if kind in wishes else len(wishes)


def _swapped(row, number):
    """A row in which an event and the next one are exchanged."""
    return list(row[:number]) + [row[number + 1], row[number]] + list(row[number + 2:])


def _without(row, number):
    return list(row[:number]) + list(row[number + 1:])
