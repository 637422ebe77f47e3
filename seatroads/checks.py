"""The plain values that everything else is built of: lists, names, times, points."""

SIGNS = "abcdefghijklmnopqrstuvwxyz0123456789"
LONGEST = 8
GREATEST = 1000000


def is_integer(thing):
    """Whether it is an integer; booleans are none."""
    return isinstance(thing, int) and not isinstance(thing, bool)


def is_list(thing):
    """Whether it is a list, or a tuple, which means the same; strings are none."""
    return isinstance(thing, (list, tuple))


def is_name(thing):
    """Whether it is a name."""
    if not isinstance(thing, str) or not 1 <= len(thing) <= LONGEST:
        return False
    return all([sign in SIGNS for sign in thing])


def is_time(thing):
    """Whether it is a time."""
    return is_integer(thing) and 0 <= thing <= GREATEST


def is_points(thing):
    """Whether it is a number of points."""
    return is_integer(thing) and 0 <= thing <= GREATEST


def frozen(thing):
    """The same thing with tuples for lists throughout, which nobody can change later."""
    if is_list(thing):
        return tuple([frozen(part) for part in thing])
    return thing
