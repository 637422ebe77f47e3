"""Tokens: the one thing in which two runs along a road differ."""


def token_behind(high, low, time):
    """The token by which one run is higher than the other behind the events up to a time.

    The runs must be even there, which gives None, or the first one higher by a token.
    """
    others = low.waiting(time)
    for name in high.waiting(time):
        if name not in others:
            return ("waits", name)
    fewer = high.free(time)
    more = low.free(time)
    for kind in more:
        if more[kind] > fewer.get(kind, 0):
            return ("free", kind)
    return None


def times_of(one, other):
    """The ascending list of the times at which either of two runs hears an event."""
    return sorted(set(list(one.whole.events()) + list(other.whole.events())))
