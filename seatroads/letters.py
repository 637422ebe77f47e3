"""Letters that are told of people whose wishes are told to nobody."""

from seatroads.checks import frozen, is_integer, is_list, is_time
from seatroads.courses import Course
from seatroads.errors import BadEvent, BadLetter, BadTime
from seatroads.events import is_event, is_wishes, name_told
from seatroads.runs import run_of
from seatroads.stories import Story, is_letter


class Told:
    """Who came, which places came and went, and all letters."""

    def __init__(self, office, events, letters):
        self.office = office
        self._events = _told_events(office, events)
        self._story = Story(office)
        self._stages = []
        self._hear_all(letters)
        self._letters = list(frozen(letters))

    def letters(self):
        """The list of the letters."""
        return list(self._letters)

    def events(self):
        """The ascending dict of the events, tuples throughout."""
        return dict(self._events)

    def waiting(self, time):
        """The names of those who wait behind the events up to a time, in the order of their times."""
        waiting, _ = self._behind(time)
        return list(waiting)

    def free(self, time):
        """The ascending dict of the numbers of free places behind the events up to a time."""
        _, free = self._behind(time)
        return dict(free)

    def asked(self):
        """The ascending list of the times at which wishes were told."""
        return list(self._story.stretches())

    def story(self):
        """What is told behind all events."""
        return self._story

    def __eq__(self, other):
        if not isinstance(other, Told) or self.office != other.office:
            return False
        return self._events == other._events and self._letters == other._letters

    def _hear_all(self, letters):
        """Hear all events with their letters; BadLetter for the first thing that cannot be a letter there."""
        if not is_list(letters):
            raise BadLetter(0)
        left = list(self._events)
        ahead = -1
        for index, letter in enumerate(letters):
            if not is_letter(self.office, letter) or letter[0] <= ahead or letter[0] not in self._events:
                raise BadLetter(index)
            ahead = letter[0]
            while left[0] < ahead:
                self._hear(left.pop(0), None)
            if not self._story.can_be(self._events[ahead], letter):
                raise BadLetter(index)
            self._hear(left.pop(0), letter)
        for time in left:
            self._hear(time, None)

    def _hear(self, time, letter):
        self._story.hear(time, self._events[time], letter)
        self._stages.append((time, self._story.waiting(), self._story.free()))

    def _behind(self, time):
        if not is_time(time):
            raise BadTime(time)
        behind = ([], {})
        for heard, waiting, free in self._stages:
            if heard > time:
                break
            behind = (waiting, free)
        return behind


def explains(told, wishes):
    """Whether it is a dict of wishes for all asked times by which the run has just these letters."""
    asked = told.asked()
    if not isinstance(wishes, dict) or len(wishes) != len(asked):
        return False
    for time in wishes:
        # True would be found where 1 is a time.
        if not is_integer(time) or time not in asked or not is_wishes(told.office, wishes[time]):
            return False
    events = told.events()
    whole = {time: _with_wishes(events[time], wishes.get(time, ())) for time in events}
    return run_of(Course(told.office, whole)).letters() == told.letters()


def _with_wishes(event, wishes):
    """An event as a course has it."""
    if event[0] == "come":
        return ("come", event[1], wishes, event[2], event[3])
    if event[0] == "change":
        return ("change", event[1], wishes)
    return event


def _told_events(office, events):
    """The events, ascending, tuples throughout; BadEvent if they are none."""
    if not isinstance(events, dict):
        raise BadEvent(events)
    for time in events:
        if not is_time(time) or not _is_told_event(office, events[time]):
            raise BadEvent(time)
    told = set()
    for time in sorted(events):
        name = name_told(events[time])
        if name is not None and name in told:
            raise BadEvent(time)
        told.add(name)
    return {time: frozen(events[time]) for time in sorted(events)}


def _is_told_event(office, thing):
    """Whether it is an event of the office without its wishes, and not of lists that are gathered."""
    if not is_list(thing) or len(thing) == 0 or thing[0] in ("gather", "round"):
        return False
    if thing[0] == "come":
        return len(thing) == 4 and is_event(office, _with_wishes(thing, ()))
    if thing[0] == "change":
        return len(thing) == 2 and is_event(office, _with_wishes(thing, ()))
    return is_event(office, thing)
