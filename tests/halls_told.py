"""Halls and rows that the tests share, and the document's words on them gone through naively."""

import random
from itertools import combinations, combinations_with_replacement, product

from oracle import Naive

WORDS = ["points", "few", "home", "early", "late"]


def naive_end(ranks, hall, row):
    """What a row leaves of a hall, as a triple (got, waits, rooms): the hall comes of a plain course."""
    people, free = hall
    ahead = [("come",) + tuple(person) for person in people]
    ahead += [("place", kind) for kind, many in sorted(free.items()) for _ in range(many)]
    naive = Naive(ranks, dict(enumerate(ahead + list(row))))
    got = {name: kind for _, name, kind in naive.letters}
    last = len(ahead) + len(row)
    return got, naive.waiting(last), naive.free(last)


def is_plain_hall(ranks, hall):
    """Whether a plain course leaves just this hall: FACT of [10.1]."""
    people, free = hall
    return naive_end(ranks, hall, []) == ({}, [person[0] for person in people], dict(sorted(free.items())))


def told_end(found):
    return found.got, found.waits, found.rooms


def size_of(hall):
    people, free = hall
    return len(people) + sum(free.values())


def looks(kinds, levels, homes):
    """All that people of a hall can be, whatever the order of their wishes."""
    sets = [row for many in range(1, len(kinds) + 1) for row in combinations(kinds, many)]
    return [(wishes, points, home) for wishes in sets for points in levels for home in homes]


def all_halls(kinds, levels, homes, people, places):
    """All halls of at most so many people and free places, with names that no row of these tests has."""
    for many in range(people + 1):
        for told in product(looks(kinds, levels, homes), repeat=many):
            let = {kind for wishes, _, _ in told for kind in wishes}
            row = [("h" + str(number),) + one for number, one in enumerate(told)]
            for count in range(places + 1):
                for free in combinations_with_replacement([kind for kind in kinds if kind not in let], count):
                    yield row, {kind: free.count(kind) for kind in free}


class DrawRows:
    """Offices, rows and halls drawn by a fixed seed."""

    def __init__(self, seed):
        self.rng = random.Random(seed)

    def ranks(self, many):
        return {kind: self.rng.sample(WORDS, self.rng.choice([0, 1, 1, 2, 3])) for kind in "abc"[:many]}

    def wishes(self, kinds):
        return tuple(self.rng.sample(kinds, self.rng.randint(0 if self.rng.random() < 0.15 else 1, len(kinds))))

    def row(self, kinds, comes=3, places=2, others=2, most=5):
        names = ["x", "y", "z"][:comes]
        found = [("come", name, self.wishes(kinds), self.rng.randint(0, 3), self.rng.choice([None] + kinds))
                 for name in names[:self.rng.randint(0, comes)]]
        found += [("place", self.rng.choice(kinds)) for _ in range(self.rng.randint(0, places))]
        for _ in range(self.rng.randint(0, others)):
            name = self.rng.choice(["x", "y", "z"])
            found.append(self.rng.choice([("withdraw", self.rng.choice(kinds)), ("leave", name),
                                          ("change", name, self.wishes(kinds))]))
        self.rng.shuffle(found)
        return found[:most]

    def other(self, row, kinds):
        """Another row, near to a row more often than not."""
        near = list(row)
        word = self.rng.choice(["drawn", "swapped", "swapped", "without", "same", "told"])
        if word == "swapped" and len(near) > 1:
            at = self.rng.randrange(len(near) - 1)
            near[at], near[at + 1] = near[at + 1], near[at]
        elif word == "without" and near:
            near.pop(self.rng.randrange(len(near)))
        elif word == "told" and near:
            at = self.rng.randrange(len(near))
            if near[at][0] == "come":
                near[at] = near[at][:2] + (self.wishes(kinds),) + near[at][3:]
        elif word == "drawn":
            near = self.row(kinds)
        return near

    def hall(self, kinds, people=4, places=4, names="h"):
        """A hall with names of its own."""
        bare = [kind for kind in kinds if self.rng.random() < 0.4]
        let = [kind for kind in kinds if kind not in bare]
        row = []
        for number in range(self.rng.randint(0, people)):
            wishes = tuple(self.rng.sample(let, self.rng.randint(0 if self.rng.random() < 0.1 else min(1, len(let)),
                                                                 len(let))))
            row.append((names + str(number), wishes, self.rng.randint(0, 4), self.rng.choice([None] + kinds)))
        free = {}
        for _ in range(self.rng.randint(0, places) if bare else 0):
            kind = self.rng.choice(bare)
            free[kind] = free.get(kind, 0) + 1
        return row, free
