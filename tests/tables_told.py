"""Tables that the tests share, and the document's words on them gone through naively."""

import random
from itertools import permutations, product

from oracle import is_ahead
from samples import Draw
from seatroads.rules import Table


def counts_of(many, most):
    return list(product(range(most + 1), repeat=many))


class ToldTable:
    """A table told plainly, with the program's object."""

    def __init__(self, waits, frees, depth, comers):
        self.waits, self.frees, self.depth, self.comers = list(waits), list(frees), depth, comers
        self.table = Table(waits, frees, depth, comers)

    def after(self, book, comer):
        side = 1 if comer[0] == "person" else 0
        seen = tuple(min(count, self.depth) for count in book[side])
        taken, rests = self.comers[comer][seen]
        looked = tuple(count - took for count, took in zip(book[side], taken))
        other = tuple(count + rest for count, rest in zip(book[1 - side], rests))
        return (other, looked) if side else (looked, other)

    def pairs(self, most):
        """All triples (low, token, high) of books with counts up to the most."""
        found = []
        for waits in counts_of(len(self.waits), most):
            for frees in counts_of(len(self.frees), most):
                for place, sort in enumerate(self.waits):
                    high = waits[:place] + (waits[place] + 1,) + waits[place + 1:]
                    found.append(((waits, frees), ("waits", sort), (high, frees)))
                for place, sort in enumerate(self.frees):
                    if frees[place]:
                        high = frees[:place] + (frees[place] - 1,) + frees[place + 1:]
                        found.append(((waits, frees), ("free", sort), (waits, high)))
        return found

    def is_higher(self, high, low):
        """Whether a book is higher than another one by a token."""
        found = []
        for place in range(len(self.waits)):
            one_more = tuple(count + (at == place) for at, count in enumerate(low[0]))
            found.append((one_more, low[1]))
        for place in range(len(self.frees)):
            one_fewer = tuple(count - (at == place) for at, count in enumerate(low[1]))
            found.append((low[0], one_fewer))
        return high in found

    def is_fault(self, low, high, comer):
        behind, above = self.after(low, comer), self.after(high, comer)
        return behind != above and not self.is_higher(above, behind)

    def least_fault(self, most):
        """How few there are in the lower book of the least fault, None without one."""
        sizes = [sum(low[0]) + sum(low[1]) for low, _, high in self.pairs(most) for comer in self.comers
                 if self.is_fault(low, high, comer)]
        return min(sizes, default=None)

    def lists_of(self, comer):
        """All pairs (list, rests) that are as [12.4] tells it."""
        sorts = self.frees if comer[0] == "person" else self.waits
        rows = self.comers[comer]
        found = []
        for many in range(len(sorts) + 1):
            for row in permutations(range(len(sorts)), many):
                rests = {tuple(rows[counts][1]) for counts in rows if not any(counts[place] for place in row)}
                if len(rests) == 1 and all(self.goes_by(counts, row, min(rests), *rows[counts]) for counts in rows):
                    found.append((tuple(sorts[place] for place in row), min(rests)))
        return found

    def goes_by(self, counts, row, wanted, taken, rests):
        there = [place for place in row if counts[place]]
        if there:
            return list(taken) == [int(place == there[0]) for place in range(len(counts))] and not any(rests)
        return not any(taken) and tuple(rests) == wanted


class DrawTables:
    """Tables drawn by a fixed seed."""

    def __init__(self, seed):
        self.rng = random.Random(seed)

    def row(self, counts, others, order):
        """What a comer with an order does, or at times anything else."""
        if self.rng.random() < 0.1:
            return (tuple(self.rng.randint(0, count) for count in counts),
                    tuple(self.rng.randint(0, 1) for _ in range(others)))
        there = [place for place in order if counts[place]]
        return (tuple(int(place in there[:1]) for place in range(len(counts))),
                tuple(0 if there else int(place == 0) for place in range(others)))

    def told(self, waits, frees, depth, comers, noise=True):
        waits, frees = ["w" + str(number) for number in range(waits)], ["f" + str(number) for number in range(frees)]
        found = {}
        for number in range(comers):
            side = self.rng.choice(["person", "place"])
            looked, others = (frees, waits) if side == "person" else (waits, frees)
            order = self.rng.sample(range(len(looked)), self.rng.randint(0, len(looked)))
            rows = {}
            for counts in counts_of(len(looked), depth):
                there = [place for place in order if counts[place]]
                if noise and self.rng.random() < 0.5:
                    rows[counts] = self.row(counts, len(others), order)
                else:
                    rows[counts] = (tuple(int(place in there[:1]) for place in range(len(looked))),
                                    tuple(0 if there else int(place == 0) for place in range(len(others))))
            found[side, "c" + str(number)] = rows
        return ToldTable(waits, frees, depth, found)

    def single(self, waits, frees):
        """A table of depth 1 whose comers take one or none, of whom one who takes none rests as one or not at all."""
        told = self.told(waits, frees, 1, 2, False)
        for comer, rows in told.comers.items():
            many = len(told.waits) if comer[0] == "person" else len(told.frees)
            resting = self.rng.randint(-1, many - 1)
            for counts in rows:
                taken = rows[counts][0]
                if self.rng.random() < 0.06:
                    there = [place for place, count in enumerate(counts) if count]
                    one = self.rng.choice(there + [None])
                    taken = tuple(int(place == one) for place in range(len(counts)))
                rest = resting if self.rng.random() < 0.97 else self.rng.randint(-1, many - 1)
                rows[counts] = (taken, tuple(int(place == rest and not any(taken)) for place in range(many)))
        return ToldTable(told.waits, told.frees, 1, told.comers)


class DrawPeople(Draw):
    """Offices, and people whom ranks tell apart whenever they came."""

    def office(self, kinds, people):
        ranks, told = {}, {}
        for kind in "abcd"[:kinds]:
            words = self.rng.sample(["points", "few", "home"], self.rng.randint(1, 2))
            if words == ["home"]:
                words = ["home", "points"]
            ranks[kind] = words + self.rng.sample(["early", "late"], self.rng.randint(0, 1))
        points = self.rng.sample(range(20), people)
        names = ["p" + str(number) for number in range(people)]
        self.rng.shuffle(names)
        for name, one in zip(names, points):
            told[name] = (self.wishes(ranks), one, self.rng.choice([None] + sorted(ranks)))
        return ranks, told


class ServedOffice:
    """People and places one by one, served by a rule as [12.6] tells it."""

    def __init__(self, ranks, people, rule):
        self.ranks, self.people, self.rule = ranks, people, rule
        self.waiting, self.places = [], []

    def book(self):
        return (tuple(self.waiting.count(name) for name in sorted(self.people)),
                tuple(self.places.count(kind) for kind in sorted(self.ranks)))

    def take(self, name):
        """Take the first place that there is by the wishes, and tell whether there was one."""
        for kind in self.people[name][0]:
            if kind in self.places:
                self.places.remove(kind)
                return True
        return False

    def come(self, comer):
        side, name = comer
        if side == "place":
            return self.bring(name)
        wishes = self.people[name][0]
        if self.rule == "pairs":
            if sum(self.places.count(kind) for kind in wishes) >= 2:
                return self.take(name) and self.take(name)
            self.waiting += [name, name]
        elif self.rule == "proud":
            if not self.take(name) and not self.places:
                self.waiting.append(name)
        elif self.rule == "all":
            if not wishes or not all(kind in self.places for kind in wishes) or not self.take(name):
                self.waiting.append(name)
        elif not self.take(name):
            self.waiting.append(name)

    def bring(self, kind):
        letting = sorted({name for name in self.waiting if kind in self.people[name][0]})
        ahead = {name: sum(self.is_ahead(kind, other, name) for other in letting if other != name) for name in letting}
        row = sorted(letting, key=ahead.get)
        many = {name: min(2, self.waiting.count(name)) for name in row}
        if self.rule == "crowd":
            row = [name for name in row if many[name] == max(many.values())]
        if self.rule == "small":
            row = [name for name in row if many[name] == min(many.values())]
        if row:
            self.waiting.remove(row[0])
        else:
            self.places.append(kind)

    def is_ahead(self, kind, one, other):
        told = [dict(points=self.people[name][1], home=self.people[name][2], time=0) for name in (one, other)]
        return is_ahead(self.ranks[kind], kind, *told)
