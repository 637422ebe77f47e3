"""Exchanges that the tests share, and the document's words on them gone through naively."""

import random

from seatroads.rings import Exchange


class ToldExchange:
    """An exchange told plainly, with the program's object."""

    def __init__(self, ranks, holds, wishes, free):
        self.ranks = {kind: list(row) for kind, row in ranks.items()}
        self.holds = dict(holds)
        self.wishes = {name: list(row) for name, row in wishes.items()}
        self.free = dict(free)
        self.exchange = Exchange(ranks, holds, wishes, free)
        self.people = sorted(list(self.ranks.values())[0]) if self.ranks else []

    def places(self, kind):
        return list(self.holds.values()).count(kind) + self.free.get(kind, 0)

    def there(self, gone):
        """The people there, and the numbers of places there, behind rings that went."""
        pairs = [pair for ring in gone for pair in ring]
        people = [name for name in self.people if name not in dict(pairs)]
        places = {kind: self.places(kind) for kind in self.ranks}
        for _, kind in pairs:
            if kind is not None:
                places[kind] -= 1
        return people, places

    def points(self, name, places):
        for kind in self.wishes.get(name, []):
            if places[kind] > 0:
                return kind
        return self.holds.get(name)

    def pointed(self, kind, people):
        holders = [name for name in self.ranks[kind] if name in people and self.holds.get(name) == kind]
        return (holders + [name for name in self.ranks[kind] if name in people])[0]

    def rings(self, gone):
        """All rings there behind rings that went, ascending."""
        people, places = self.there(gone)
        assert all(many >= 0 for many in places.values())
        found = []
        for name in people:
            row, at = [], name
            while at is not None and at not in [one for one, _ in row]:
                kind = self.points(at, places)
                row.append((at, kind))
                at = None if kind is None else self.pointed(kind, people)
            if at == name and min(row)[0] == name:
                found.append(tuple(row))
            if row == [(name, None)]:
                found.append(((name, None),))
        return found

    def is_way(self, rings):
        """Whether they are a whole way; rings are tuples of pairs."""
        for number, ring in enumerate(rings):
            if ring not in self.rings(rings[:number]):
                return False
        return not self.there(rings)[0]

    def whole_ways(self, most=400):
        """All whole ways, or very many of them."""
        found, ahead = [], [[]]
        while ahead and len(found) < most:
            way = ahead.pop()
            there = self.rings(way)
            if not there:
                assert not self.there(way)[0]
                found.append(way)
            ahead.extend(way + [ring] for ring in there)
        return found

    def count(self, gone=()):
        """The number of whole ways from some rings on, one ring after another."""
        there = self.rings(gone)
        return sum(self.count(tuple(gone) + (ring,)) for ring in there) if there else 1


class DrawExchanges:
    """Exchanges drawn by a fixed seed."""

    def __init__(self, seed):
        self.rng = random.Random(seed)

    def told(self, people, kinds, held=0.7):
        names = ["p" + str(number) for number in range(people)]
        kinds = ["k" + str(number) for number in range(kinds)]
        ranks = {}
        for kind in kinds:
            row = list(names)
            self.rng.shuffle(row)
            ranks[kind] = row
        if not kinds:
            names = []
        holds = {name: self.rng.choice(kinds) for name in names if self.rng.random() < held}
        wishes = {}
        for name in names:
            others = [kind for kind in kinds if kind != holds.get(name)]
            if self.rng.random() < 0.9:
                wishes[name] = self.rng.sample(others, self.rng.randint(0, len(others)))
        free = {kind: self.rng.choice([0, 0, 1]) for kind in kinds if self.rng.random() < 0.7}
        return ToldExchange(ranks, holds, wishes, free)


    def swapped(self, many):
        """People who hold unlike kinds, and wish others."""
        names = ["p" + str(number) for number in range(many)]
        kinds = ["k" + str(number) for number in range(many)]
        holds = dict(zip(names, self.rng.sample(kinds, many)))
        wishes = {name: self.rng.sample([kind for kind in kinds if kind != holds[name]], self.rng.randint(1, many - 1))
                  for name in names}
        return ToldExchange({kind: self.rng.sample(names, many) for kind in kinds}, holds, wishes, {})


def small_exchanges(seed, many, people=6, kinds=4):
    draw = DrawExchanges(seed)
    found = [draw.told(draw.rng.randint(0, people), draw.rng.randint(0 if number % 9 == 0 else 1, kinds),
                       draw.rng.choice([0.4, 0.7, 1])) for number in range(many)]
    return found + [draw.swapped(draw.rng.randint(2, people)) for _ in range(many // 5)]
