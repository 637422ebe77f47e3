"""Who waits and what stands free, while events are heard one after another."""

from seatroads.asking import best_for_people
from seatroads.ranking import names_in_rank


class Standing:
    """An office amid its course; at first these people wait, and these places are free.

    People are told as tuples (name, wishes, points, home, time), in the order of their times.
    """

    def __init__(self, office, people=(), free=()):
        self._office = office
        # People stand in the order of their times, for each new one comes last.
        self._waiting = {person[0]: person for person in people}
        # Kinds without a free place are left out.
        self._free = dict(free)
        self._gathered = False
        self._placed = []

    def people(self):
        """The list of those who wait, in the order of their times."""
        return list(self._waiting.values())

    def free(self):
        """The dict of the numbers of free places, ascending, without noughts."""
        return {kind: self._free[kind] for kind in sorted(self._free)}

    def letters(self):
        """The list of the letters so far, in the order in which they came."""
        return [(time, person[0], kind) for time, person, kind in self._placed]

    def placed(self):
        """The list of the triples (time, person, kind) of the letters, people as they were then."""
        return list(self._placed)

    def is_gathered(self):
        """Whether lists are being gathered."""
        return self._gathered

    def hear(self, time, event):
        """Hear one event more, at a time behind all others."""
        word = event[0]
        if word == "come":
            name, wishes, points, home = event[1:]
            self._arrive((name, wishes, points, home, time))
        elif word == "place":
            self._bring(time, event[1])
        elif word == "leave":
            self._waiting.pop(event[1], None)
        elif word == "withdraw":
            self._take_away(event[1])
        elif word == "change":
            self._change(time, event[1], event[2])
        elif word == "gather":
            self._gathered = True
        elif self._gathered:
            self._gathered = False
            self._meet(time)

    def _arrive(self, person):
        name, wishes, _, _, time = person
        there = [kind for kind in wishes if kind in self._free]
        if self._gathered or not there:
            self._waiting[name] = person
        else:
            self._take_away(there[0])
            self._placed.append((time, person, there[0]))

    def _bring(self, time, kind):
        letting = names_in_rank(self._office, kind, self.people())
        if self._gathered or not letting:
            self._free[kind] = self._free.get(kind, 0) + 1
        else:
            self._give(time, letting[0], kind)

    def _give(self, time, name, kind):
        self._placed.append((time, self._waiting.pop(name), kind))

    def _take_away(self, kind):
        """One free place of the kind less, if there is one."""
        if kind in self._free:
            self._free[kind] -= 1
            if self._free[kind] == 0:
                del self._free[kind]

    def _change(self, time, name, wishes):
        if name in self._waiting:
            _, _, points, home, _ = self._waiting.pop(name)
            self._arrive((name, wishes, points, home, time))

    def _meet(self, time):
        people = self.people()
        names = {kind: names_in_rank(self._office, kind, people) for kind in self._office.kinds()}
        given = best_for_people({person[0]: person[1] for person in people}, names, self._free)
        for name in sorted(given):
            self._take_away(given[name])
            self._give(time, name, given[name])
