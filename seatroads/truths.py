"""Late truths: what is told of a course long after."""

from seatroads.checks import is_list, is_time
from seatroads.events import is_event


def is_truth(office, thing):
    """Whether it has the form of a truth, with an event of the office."""
    if not is_list(thing) or len(thing) < 2 or not is_time(thing[1]):
        return False
    if thing[0] == "strike":
        return len(thing) == 2
    return thing[0] in ("put", "alter") and len(thing) == 3 and is_event(office, thing[2])
