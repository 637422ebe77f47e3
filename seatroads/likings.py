"""What people of an exchange like more, and what they come to have in it.

This stands apart from exchanges.py, whose functions have parameters called outcome.
"""

from seatroads.rings import outcome


def would_rather_have(exchange, name, kind, other):
    """Whether a person would rather have one kind than another one; None is no place."""
    # What a person neither wishes nor holds is alike to them, and behind all the rest.
    liked = list(exchange.wishes()[name]) + [exchange.holds().get(name)]
    return kind in liked and (other not in liked or liked.index(kind) < liked.index(other))


def is_outcome(exchange, thing):
    """Whether it is an outcome: it gives people what they wish or hold, and no more than there is."""
    people = exchange.people()
    if not isinstance(thing, dict) or len(thing) != len(people):
        return False
    for name in people:
        if name not in thing or not _can_have(exchange, name, thing[name]):
            return False
    return all([list(thing.values()).count(kind) <= exchange.places(kind) for kind in exchange.kinds()])


def comes_to_have(exchange, name):
    """The kind that a person comes to have, or None."""
    return outcome(exchange)[name]


def _can_have(exchange, name, kind):
    return kind is None or kind in exchange.wishes()[name] or kind == exchange.holds().get(name)
