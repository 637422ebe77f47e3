"""Told letters that the tests share, and the document's words on them gone through naively."""

from itertools import permutations, product

from oracle import Naive, is_ahead
from samples import Draw
from seatroads.letters import Told
from seatroads.offices import Office


def wish_lists(kinds):
    """All lists of wishes: shorter ones first, of as many as Python orders lists."""
    return [row for many in range(len(kinds) + 1) for row in permutations(sorted(kinds), many)]


def seen(event):
    """An event without its wishes."""
    if event[0] == "come":
        return ("come", event[1], event[3], event[4])
    return event[:2]


class ToldCourse:
    """Events without wishes and letters, with the program's object."""

    def __init__(self, ranks, events, letters):
        self.ranks = ranks
        self.kinds = sorted(ranks)
        self.events = dict(sorted(events.items()))
        self.letters = list(letters)
        self.told = Told(Office(ranks), events, letters)
        self.letter_at = {letter[0]: letter for letter in letters}
        self.go()

    def go(self):
        """Go through what is told: who waits and what is free behind each event, and what is said of each asked time."""
        self.stages, self.asked, self.said = {}, [], {}
        waiting, free, since = {}, [], {}
        for time, event in self.events.items():
            letter = self.letter_at.get(time)
            name = event[1]
            if event[0] == "come" or (event[0] == "change" and name in waiting):
                one = waiting.pop(name, None) or dict(points=event[2], home=event[3])
                self.asked.append(time)
                self.said[time] = dict(let=[], barred=[], first=letter and letter[2], free=sorted(set(free)))
                if letter:
                    self.said[time]["let"].append((letter[2], time))
                    free.remove(letter[2])
                else:
                    self.said[time]["barred"] += [(kind, time) for kind in sorted(set(free))]
                    waiting[name] = dict(one, time=time)
                    since[name] = time
            elif event[0] == "place":
                kind = event[1]
                getter = waiting.pop(letter[1]) if letter else None
                if letter:
                    self.said[since[letter[1]]]["let"].append((kind, time))
                else:
                    free.append(kind)
                for other, one in waiting.items():
                    if getter is None or is_ahead(self.ranks[kind], kind, one, getter):
                        self.said[since[other]]["barred"].append((kind, time))
            elif event[0] == "leave":
                waiting.pop(name, None)
            elif event[0] == "withdraw" and name in free:
                free.remove(name)
            self.stages[time] = ([one for one in waiting], {kind: free.count(kind) for kind in sorted(set(free))})
        self.since = {name: since[name] for name in waiting}
        self.waiting = waiting

    def behind(self, time):
        found = ([], {})
        for heard, stage in self.stages.items():
            if heard <= time:
                found = stage
        return found

    def whole(self, wishes):
        """The events with wishes."""
        found = {}
        for time, event in self.events.items():
            row = wishes.get(time, ())
            if event[0] == "come":
                event = ("come", event[1], row, event[2], event[3])
            elif event[0] == "change":
                event = ("change", event[1], row)
            found[time] = event
        return found

    def explains(self, wishes):
        return Naive(self.ranks, self.whole(wishes)).letters == self.letters

    def all_wishes(self):
        """All dicts of lists for the asked times."""
        return [dict(zip(self.asked, rows)) for rows in product(wish_lists(self.kinds), repeat=len(self.asked))]

    def explaining(self):
        return [wishes for wishes in self.all_wishes() if self.explains(wishes)]

    def fits(self, time, row):
        """Whether a list is as [11.3] tells it of an asked time."""
        said = self.said[time]
        if any(kind not in row for kind, _ in said["let"]) or any(kind in row for kind, _ in said["barred"]):
            return False
        first = said["first"]
        return first is None or all(row.index(first) < row.index(kind) for kind in said["free"]
                                    if kind in row and kind != first)

    def lists_at(self, time):
        return [row for row in wish_lists(self.kinds) if self.fits(time, row)]

    def clashes(self):
        return [(max(let, barred), time, kind, let, barred) for time in self.asked
                for kind, let in self.said[time]["let"] for other, barred in self.said[time]["barred"] if kind == other]

    def in_rank(self, kind):
        """The names of all who wait in the end, by the rank of a kind."""
        row = list(self.waiting)
        ahead = {name: sum(is_ahead(self.ranks[kind], kind, self.waiting[other], self.waiting[name])
                           for other in row if other != name) for name in row}
        return sorted(row, key=ahead.get)


class DrawTold(Draw):
    """Told letters drawn by a fixed seed."""

    def course(self, ranks, length):
        """Events with wishes, without rounds, and their letters."""
        events = self.events(ranks, length, rounds=False)
        return events, Naive(ranks, events).letters

    def true(self, ranks, length):
        """A course that came about, with the wishes of its asked times."""
        events, letters = self.course(ranks, length)
        told = ToldCourse(ranks, {time: seen(event) for time, event in events.items()}, letters)
        wishes = {time: events[time][2] for time in told.asked}
        return told, wishes

    def bent(self, ranks, length):
        """Letters that can be, but need not be by any wishes."""
        events = {time: seen(event) for time, event in self.events(ranks, length, rounds=False).items()}
        letters, waiting, free = [], [], []
        for time, event in sorted(events.items()):
            name = event[1]
            if event[0] == "come" or (event[0] == "change" and name in waiting):
                waiting = [one for one in waiting if one != name]
                if free and self.rng.random() < 0.6:
                    letters.append((time, name, self.rng.choice(free)))
                    free.remove(letters[-1][2])
                else:
                    waiting.append(name)
            elif event[0] == "place":
                if waiting and self.rng.random() < 0.75:
                    letters.append((time, self.rng.choice(waiting), event[1]))
                    waiting.remove(letters[-1][1])
                else:
                    free.append(event[1])
            elif event[0] == "leave" and name in waiting:
                waiting.remove(name)
            elif event[0] == "withdraw" and name in free:
                free.remove(name)
        return ToldCourse(ranks, events, letters)


def many_told(seed, many, length, ranks_list, bent=True):
    draw = DrawTold(seed)
    for number in range(many):
        ranks = ranks_list[number % len(ranks_list)]
        if bent and draw.rng.random() < 0.5:
            yield draw.bent(ranks, length)
        else:
            yield draw.true(ranks, length)[0]
