"""Runs: what comes about in a course."""

from seatroads.checks import is_name, is_time
from seatroads.errors import BadKind, BadTime, NoPerson
from seatroads.events import name_told
from seatroads.ranking import names_in_rank
from seatroads.standing import Standing


class Run:
    """Who waits, what stands free, and who got which place, at all times of a course."""

    def __init__(self, whole):
        self.whole = whole
        self._stages = []
        standing = Standing(whole.office)
        events = whole.events()
        for time in events:
            standing.hear(time, events[time])
            self._stages.append((time, standing.people(), standing.free(), standing.is_gathered()))
        self._placed = standing.placed()
        self._letters = standing.letters()
        comers = [name_told(event) for event in events.values()]
        self._letter_of = {name: None for name in comers if name is not None}
        for letter in self._letters:
            self._letter_of[letter[1]] = letter

    def letters(self):
        """The list of the letters, in the order in which they came."""
        return list(self._letters)

    def waiting(self, time):
        """The names of those who wait behind the events up to a time, in the order of their times."""
        return [person[0] for person in self.people(time)]

    def free(self, time):
        """The ascending dict of the numbers of free places behind the events up to a time."""
        _, free, _ = self._behind(time)
        return dict(free)

    def list_of(self, kind, time):
        """The names of those who wait then and let the kind, the first in its rank first."""
        if kind not in self.whole.office:
            raise BadKind(kind)
        return names_in_rank(self.whole.office, kind, self.people(time))

    def letter_of(self, name):
        """The letter of somebody who comes in the course, None if they have none."""
        if not is_name(name) or name not in self._letter_of:
            raise NoPerson(name)
        return self._letter_of[name]

    def comers(self):
        """The names of all who come in the course, in the order of their times."""
        return list(self._letter_of)

    def people(self, time):
        """The tuples (name, wishes, points, home, time) of those who wait, in the order of their times."""
        people, _, _ = self._behind(time)
        return list(people)

    def placed(self, time):
        """The pairs (person, kind) of the letters up to a time, people as they were when they were placed."""
        return [(person, kind) for came, person, kind in self._placed if came <= time]

    def is_gathered(self, time):
        """Whether lists are being gathered behind the events up to a time."""
        _, _, is_gathered = self._behind(time)
        return is_gathered

    def __eq__(self, other):
        return isinstance(other, Run) and self.whole == other.whole

    def _behind(self, time):
        """The people who wait, the free places, and whether lists are gathered, behind the events up to a time."""
        if not is_time(time):
            raise BadTime(time)
        behind = ([], {}, False)
        for heard, people, free, is_gathered in self._stages:
            if heard > time:
                break
            behind = (people, free, is_gathered)
        return behind


def run_of(course):
    """The run of a course."""
    return Run(course)
