"""Counts: how many there are of each of several sorts."""

from seatroads.checks import is_integer, is_list


def all_counts(many, most):
    """All tuples of so many integers from 0 to the most, ascending."""
    rows = [()]
    for _ in range(many):
        rows = [row + (count,) for row in rows for count in range(most + 1)]
    return rows


def how_many_counts(many, most):
    """How many such tuples there are."""
    number = 1
    for _ in range(many):
        number *= most + 1
    return number


def is_counts(thing):
    """Whether it is a list of integers from 0 on."""
    return is_list(thing) and all([is_integer(count) and count >= 0 for count in thing])


def is_counts_of(thing, many, most):
    """Whether it is a list of so many integers from 0 to the most."""
    return is_counts(thing) and len(thing) == many and all([count <= most for count in thing])


def added(counts, others):
    """The sums of two rows of counts."""
    return tuple([count + other for count, other in zip(counts, others)])


def lessened(counts, others):
    """What one row of counts has more than another one."""
    return tuple([count - other for count, other in zip(counts, others)])
