"""What events and letters tell of wishes that nobody told."""

from seatroads.checks import is_list, is_name, is_time
from seatroads.ranking import people_in_rank


class Stretch:
    """What is told of the wishes with which somebody came, or goes on, at an asked time.

    at_once is the kind of a letter at this very time, None without one, and behind are the
    other kinds that had free places then, where there was one. let and barred are lists of
    pairs (kind, time): what came at the time tells that they let the kind, or do not.
    """

    def __init__(self):
        self.at_once = None
        self.behind = ()
        self.let = []
        self.barred = []


class Story:
    """Who waits and what stands free, as events and letters tell it one after another."""

    def __init__(self, office):
        self._office = office
        # People as tuples (name, wishes, points, home, time), without wishes, for nobody told them.
        self._waiting = {}
        self._free = {}
        self._stretches = {}

    def waiting(self):
        """The names of those who wait, in the order of their times."""
        return list(self._waiting)

    def free(self):
        """The ascending dict of the numbers of free places, without noughts."""
        return {kind: self._free[kind] for kind in sorted(self._free)}

    def stretches(self):
        """The ascending dict from the asked times so far to what is told of each."""
        return dict(self._stretches)

    def asked_of(self, name):
        """The time at which somebody who waits was asked last."""
        return self._waiting[name][4]

    def in_rank(self, kind):
        """The names of all who wait, the first in the rank of a kind first, whatever they let."""
        return [person[0] for person in people_in_rank(self._office, kind, list(self._waiting.values()))]

    def can_be(self, event, letter):
        """Whether a letter can be at an event that comes next."""
        _, name, kind = letter
        if event[0] == "place":
            return name in self._waiting and kind == event[1]
        if event[0] == "come" or (event[0] == "change" and name in self._waiting):
            return name == event[1] and kind in self._free
        return False

    def hear(self, time, event, letter):
        """Hear one event more, with its letter, None if it has none."""
        word = event[0]
        if word == "come":
            self._ask((event[1], (), event[2], event[3], time), letter)
        elif word == "place":
            self._bring(time, event[1], letter)
        elif word == "leave":
            self._waiting.pop(event[1], None)
        elif word == "withdraw":
            self._take_away(event[1])
        elif event[1] in self._waiting:
            name, _, points, home, _ = self._waiting.pop(event[1])
            self._ask((name, (), points, home, time), letter)

    def _ask(self, person, letter):
        time = person[4]
        stretch = Stretch()
        self._stretches[time] = stretch
        if letter is None:
            self._waiting[person[0]] = person
            stretch.barred = [(kind, time) for kind in sorted(self._free)]
            return
        kind = letter[2]
        stretch.at_once = kind
        stretch.behind = tuple([other for other in sorted(self._free) if other != kind])
        stretch.let = [(kind, time)]
        self._take_away(kind)

    def _bring(self, time, kind, letter):
        row = self.in_rank(kind)
        if letter is None:
            self._free[kind] = self._free.get(kind, 0) + 1
        else:
            row = row[:row.index(letter[1])]
            self._stretches[self.asked_of(letter[1])].let.append((kind, time))
            del self._waiting[letter[1]]
        for name in row:
            self._stretches[self.asked_of(name)].barred.append((kind, time))

    def _take_away(self, kind):
        if kind in self._free:
            self._free[kind] -= 1
            if self._free[kind] == 0:
                del self._free[kind]


def is_letter(office, thing):
    """Whether it is a triple of a time, a name and a kind of the office."""
    return is_list(thing) and len(thing) == 3 and is_time(thing[0]) and is_name(thing[1]) and thing[2] in office
