"""Meetings that the tests share, and the document's words on them gone through naively."""

from functools import cmp_to_key, lru_cache
from itertools import product

import oracle
from samples import Draw
from seatroads.offices import Office
from seatroads.rounds import Meeting

CROSSED = {"a": ["points"], "b": ["few"], "c": ["home", "points"]}
TURNED = {"a": ["points"], "b": ["few"], "c": ["late"], "d": []}
EVEN = {"a": ["early"], "b": ["home"], "c": ["points", "late"]}
RANKS = [{"red": []}, {"a": ["points"], "b": ["few"]}, CROSSED, TURNED, EVEN]


class Told:
    """A meeting told plainly: ranks, people and free places, with the program's object."""

    def __init__(self, ranks, people, free):
        self.ranks = ranks
        self.people = [(name, tuple(wishes), points, home) for name, wishes, points, home in people]
        self.free = dict(free)
        self.meeting = Meeting(Office(ranks), self.people, free)
        self.plain = [dict(name=name, wishes=list(wishes), points=points, home=home, time=time)
                      for time, (name, wishes, points, home) in enumerate(self.people)]
        self.wishes = {name: list(wishes) for name, wishes, _, _ in self.people}

    def places(self):
        return [kind for kind in sorted(self.free) for _ in range(self.free[kind])]

    def with_free(self, kind):
        free = dict(self.free)
        free[kind] = free.get(kind, 0) + 1
        return Told(self.ranks, self.people, free)

    def with_person(self, person):
        return Told(self.ranks, self.people + [tuple(person)], self.free)

    def with_wishes(self, name, wishes):
        people = [(one, tuple(wishes) if one == name else others, points, home)
                  for one, others, points, home in self.people]
        return Told(self.ranks, people, self.free)

    def rank(self, kind):
        return [one["name"] for one in oracle.in_rank(self.ranks, kind, self.plain)]

    def matchings(self):
        """All matchings, each an ascending dict."""
        found = []
        for given in product(*[[None] + one["wishes"] for one in self.plain]):
            if all(given.count(kind) <= self.free.get(kind, 0) for kind in set(given) - {None}):
                found.append(as_dict(self.plain, given))
        return found

    def likes(self, name, kind, other):
        """Whether the person likes a kind more than another one, or than None."""
        if kind == other:
            return False
        return other is None or self.wishes[name].index(kind) < self.wishes[name].index(other)

    def would(self, matching, name, kind):
        if not self.likes(name, kind, matching.get(name)):
            return False
        holders = [one for one in self.rank(kind) if matching.get(one) == kind]
        if len(holders) < self.free.get(kind, 0):
            return True
        return bool(holders) and self.rank(kind).index(name) < self.rank(kind).index(holders[-1])

    def would_rather(self, matching):
        return [(name, kind) for name in self.wishes for kind in self.wishes[name]
                if self.would(matching, name, kind)]

    def is_ahead(self, one, other):
        for name in self.wishes:
            if one.get(name) != other.get(name):
                return self.likes(name, one.get(name), other.get(name))
        return False

    def stable(self):
        """All stable matchings in their order."""
        found = [as_dict(self.plain, given) for given in oracle.stable_ones(self.ranks, self.plain, self.places())]
        return sorted(found, key=cmp_to_key(lambda one, other: -1 if self.is_ahead(one, other) else 1))

    def best(self):
        return as_dict(self.plain, oracle.best_round(self.ranks, self.plain, self.places()))

    def worst(self):
        """The matching in which each person has the worst that any stable one gives them."""
        found = self.stable()
        worst = {}
        for name in sorted(found[0]):
            worst[name] = max([matching[name] for matching in found], key=self.wishes[name].index)
        assert worst in found
        return worst


def as_dict(plain, given):
    pairs = {one["name"]: kind for one, kind in zip(plain, given) if kind is not None}
    return {name: pairs[name] for name in sorted(pairs)}


class DrawMeetings(Draw):
    """Meetings drawn by a fixed seed."""

    def person(self, ranks, name):
        return self.come(ranks, name)[1:]

    def told(self, ranks, many):
        names = ["x" + str(number) for number in range(many)]
        self.rng.shuffle(names)
        people = [self.person(ranks, name) for name in names]
        kinds = sorted(ranks)
        self.rng.shuffle(kinds)
        free = {kind: self.rng.choice([0, 1, 1, 1, 2]) for kind in kinds if self.rng.random() < 0.9}
        return Told(ranks, people, free)

    def full(self, ranks, many):
        """A meeting whose people all let all kinds, with a place for almost each of them."""
        kinds = sorted(ranks)
        people = []
        for number in range(many):
            row = list(kinds)
            self.rng.shuffle(row)
            people.append(("y" + str(number), tuple(row), self.rng.randint(0, 9), self.rng.choice(kinds)))
        self.rng.shuffle(people)
        return Told(ranks, people, {kind: max(1, many // len(kinds)) for kind in kinds})


def small_meetings(seed=5, many=120):
    """Many small meetings, of all ranks."""
    draw = DrawMeetings(seed)
    found = []
    for number in range(many):
        ranks = RANKS[number % len(RANKS)]
        found.append(draw.told(ranks, draw.rng.randint(0, 5 if len(ranks) < 4 else 4)))
    for number in range(many):
        ranks = RANKS[1 + number % 4]
        found.append(draw.full(ranks, draw.rng.randint(2, 5 if len(ranks) < 4 else 4)))
    return found


@lru_cache(maxsize=None)
def big_meetings():
    """Meetings of eight people and five kinds, with 27 and with 20 stable matchings, and with two turns at once."""
    many = Told(
        {"a": ["few", "late", "points"], "b": ["points"], "c": ["late"], "d": ["early", "home"], "e": ["few"]},
        [("p0", "baced", 1, "b"), ("p1", "cbead", 1, "a"), ("p2", "bcdae", 0, "d"), ("p3", "cdbea", 0, "c"),
         ("p4", "edcba", 8, "a"), ("p5", "aebdc", 7, "d"), ("p6", "dceba", 8, "e"), ("p7", "deabc", 7, "c")],
        {"a": 1, "b": 2, "c": 2, "d": 2, "e": 1})
    fewer = Told(
        {"a": ["home", "late", "points"], "b": ["late"], "c": [], "d": ["home", "points"], "e": ["home", "few"]},
        [("p0", "bedac", 3, "a"), ("p1", "ebcad", 6, "c"), ("p2", "bcaed", 2, "c"), ("p3", "cadbe", 6, "a"),
         ("p4", "acbde", 0, "e"), ("p5", "cebda", 5, "a"), ("p6", "cadeb", 5, "c"), ("p7", "debca", 2, "a")],
        {"a": 1, "b": 2, "c": 3, "d": 1, "e": 1})
    ranks = {"a": ["points"], "b": ["few"], "c": ["points"], "d": ["few"]}
    pairs = Told(ranks, [("z", "ab", 1, None), ("y", "ba", 2, None), ("b", "cd", 1, None), ("c", "dc", 2, None)],
                 {"a": 1, "b": 1, "c": 1, "d": 1})
    return [many, fewer, pairs]


@lru_cache(maxsize=None)
def full_stable(told):
    """All stable matchings of a meeting with a place for each of its people, who all let all kinds."""
    found = []
    for given in sorted(rows_of(told.places())):
        if oracle.is_stable(told.ranks, told.plain, told.places(), given):
            found.append(as_dict(told.plain, given))
    return sorted(found, key=cmp_to_key(lambda one, other: -1 if told.is_ahead(one, other) else 1))


def rows_of(places):
    """All unlike rows of these places."""
    if not places:
        return [()]
    found = []
    for kind in sorted(set(places)):
        left = list(places)
        left.remove(kind)
        found.extend((kind,) + row for row in rows_of(left))
    return found
