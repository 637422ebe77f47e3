"""Roads: the way that a late truth goes through a run."""

from seatroads.checks import is_time
from seatroads.errors import BadTime, NoRoad
from seatroads.runs import run_of
from seatroads.tokens import times_of, token_behind

# Which run is the higher one where an event of this word is put.
HIGHER_PUT = {"come": "new", "withdraw": "new", "place": "old", "leave": "old"}
OTHER = {"new": "old", "old": "new"}


class Road:
    """By which token one run is higher than the other one, from the time of a truth on."""

    def __init__(self, truth, higher, steps):
        self.truth = truth
        self.higher = higher
        self.steps = steps

    def at(self, time):
        """The token behind the events up to a time, None for even."""
        if not is_time(time):
            raise BadTime(time)
        token = None
        for step, _, after in self.steps:
            if step <= time:
                token = after
        return token

    def end(self):
        """The token behind all events, None for even."""
        if not self.steps:
            return None
        return self.steps[-1][2]


def roads(course, truths):
    """The list of the roads of truths that are heard one after another."""
    # A truth that cannot be heard counts ahead of one that has no road, wherever it stands.
    course.with_truths(truths)
    found = []
    known = run_of(course)
    for index, truth in enumerate(truths):
        parts = _parts(known.whole.events(), index, truth)
        for part, higher in parts:
            heard = run_of(known.whole.with_truths([part]))
            found.append(Road(index, higher, _steps(known, heard, higher)))
            known = heard
    return found


def _steps(known, heard, higher):
    """The steps of the road from one run to the next."""
    high, low = (heard, known) if higher == "new" else (known, heard)
    steps = []
    before = None
    for time in times_of(known, heard):
        after = token_behind(high, low, time)
        if after != before:
            steps.append((time, before, after))
        before = after
    return tuple(steps)


def _parts(events, index, truth):
    """The truths of one road each that make up a truth, each with the run that is higher."""
    time = truth[1]
    if truth[0] == "put":
        return _parts_of_put(time, truth[2], index)
    parts = _parts_of_strike(time, events[time], index)
    if truth[0] == "alter":
        return parts + _parts_of_put(time, truth[2], index)
    return parts


def _parts_of_put(time, event, index):
    if event[0] == "change":
        leave = ("leave", event[1])
        return [(("put", time, leave), "old"), (("alter", time, event), "new")]
    return [(("put", time, event), _higher_put(event, index))]


def _parts_of_strike(time, event, index):
    if event[0] == "change":
        leave = ("leave", event[1])
        return [(("alter", time, leave), "old"), (("strike", time), "new")]
    return [(("strike", time), OTHER[_higher_put(event, index)])]


def _higher_put(event, index):
    if event[0] not in HIGHER_PUT:
        raise NoRoad(index)
    return HIGHER_PUT[event[0]]
