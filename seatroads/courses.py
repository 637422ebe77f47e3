"""Courses: the events that an office hears, each at its time."""

from seatroads.checks import frozen, is_integer, is_list, is_time
from seatroads.errors import BadEvent, BadTruth
from seatroads.events import is_event, name_told
from seatroads.truths import is_truth


class Course:
    """The events of an office by their times."""

    def __init__(self, office, events):
        if not isinstance(events, dict):
            raise BadEvent(events)
        for time in events:
            if not is_time(time) or not is_event(office, events[time]):
                raise BadEvent(time)
        self.office = office
        self._events = {time: frozen(events[time]) for time in sorted(events)}
        _check_names(self._events)

    def events(self):
        """The dict of the events, ascending, tuples throughout."""
        return dict(self._events)

    def with_truths(self, truths):
        """The course behind a list of truths, one after the other."""
        if not is_list(truths):
            raise BadTruth(0)
        events = self._events
        for index, truth in enumerate(truths):
            if not is_truth(self.office, truth) or not _can_be_heard(events, truth):
                raise BadTruth(index)
            events = _heard(events, truth)
        return Course(self.office, events)

    def __eq__(self, other):
        return isinstance(other, Course) and self.office == other.office and self._events == other._events

    def __len__(self):
        return len(self._events)

    def __contains__(self, thing):
        # True would be found where 1 is a time, and lists cannot be looked up.
        return is_integer(thing) and thing in self._events


def _check_names(events):
    """Raise BadEvent for the first time whose come tells a name again; events ascend."""
    told = set()
    for time in events:
        name = name_told(events[time])
        if name is not None and name in told:
            raise BadEvent(time)
        told.add(name)


def _can_be_heard(events, truth):
    """Whether a truth fits events: to its time, and to the names that other times tell."""
    time = truth[1]
    if (truth[0] == "put") == (time in events):
        return False
    if truth[0] == "strike" or name_told(truth[2]) is None:
        return True
    others = [name_told(events[other]) for other in events if other != time]
    return name_told(truth[2]) not in others


def _heard(events, truth):
    """The events behind a truth that fits them, in a dict of their own."""
    later = dict(events)
    if truth[0] == "strike":
        del later[truth[1]]
    else:
        later[truth[1]] = truth[2]
    return later
