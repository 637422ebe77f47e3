"""Offices, courses and odd objects that the tests share."""

import random

from seatroads.courses import Course
from seatroads.debts import Debts
from seatroads.known import Known
from seatroads.ledgers import Ledger
from seatroads.offices import Office
from seatroads.queues import Queues
from seatroads.rings import Exchange
from seatroads.rounds import Meeting
from seatroads.runs import run_of

PLAIN = {"red": []}
TWO = {"a": ["points"], "b": ["few"]}
HOMES = {"a": ["home", "late"], "b": ["early"]}
MIXED = {"a": ["home", "points", "late"], "b": ["few", "home"], "c": []}
ALL_RANKS = [PLAIN, TWO, HOMES, MIXED]


def odd_objects():
    """Objects of all kinds, none of them a name, a time or the like by chance."""
    office = Office({"zz": []})
    course = Course(office, {})
    return [
        None, True, False, -1, 10 ** 6 + 1, 10 ** 30, "", "Red", "a b", "ninesigns", "red ", "r\tx", [], (), {},
        [None], (True,), [[]], ((),), {"red": 1}, {None: None}, ["red", ["red"]], ("put",), ["strike"],
        office, course, run_of(course), Known(course), [office], {1: course}, Meeting(office, [], {}), Ledger(),
        Queues({}, []), Debts({}, {}), Exchange({}, {}, {}, {}),
    ]


class Draw:
    """Courses drawn by a fixed seed, so that each run of the tests has the same ones."""

    def __init__(self, seed):
        self.rng = random.Random(seed)

    def wishes(self, ranks):
        kinds = sorted(ranks)
        return tuple(self.rng.sample(kinds, self.rng.randint(0 if self.rng.random() < 0.1 else 1, len(kinds))))

    def come(self, ranks, name):
        home = self.rng.choice([None] + sorted(ranks))
        return ("come", name, self.wishes(ranks), self.rng.randint(0, 3), home)

    def event(self, ranks, name, words):
        word = self.rng.choice(words)
        if word == "come":
            return self.come(ranks, name)
        if word in ("place", "withdraw"):
            return (word, self.rng.choice(sorted(ranks)))
        someone = "p" + str(self.rng.randint(0, 5))
        if word == "leave":
            return ("leave", someone)
        if word == "change":
            return ("change", someone, self.wishes(ranks))
        return (word,)

    def events(self, ranks, length, rounds=True):
        words = ["come"] * 5 + ["place"] * 4 + ["leave", "withdraw", "change", "change"]
        if rounds:
            words += ["gather", "gather", "round", "round"]
        times = sorted(self.rng.sample(range(1, 2 * length + 2), length))
        events, many = {}, 0
        for time in times:
            events[time] = self.event(ranks, "p" + str(many), words)
            if events[time][0] == "come":
                many += 1
        return events

    def truth(self, ranks, events, moving=False):
        """A truth that can be heard; of a gather or a round only if moving."""
        while True:
            time = self.rng.randint(0, max(events, default=0) + 1)
            if events and self.rng.random() < 0.4:
                time = self.rng.choice(sorted(events))
            words = ["come", "place", "leave", "withdraw", "change"] + (["gather", "round"] if moving else [])
            event = self.event(ranks, self.rng.choice(["q0", "q1", "p0", "p1"]), words)
            if time not in events:
                truth = ("put", time, event)
            elif not moving and events[time][0] in ("gather", "round"):
                continue
            else:
                truth = self.rng.choice([("strike", time), ("alter", time, event)])
            if can_be_heard(events, truth):
                return truth

    def truths(self, ranks, events, many, moving=False):
        found = []
        for _ in range(many):
            truth = self.truth(ranks, events, moving)
            events = dict(events)
            if truth[0] == "strike":
                del events[truth[1]]
            else:
                events[truth[1]] = truth[2]
            found.append(truth)
        return found


def can_be_heard(events, truth):
    """Whether a truth of the right form fits its time and the names of the others."""
    if (truth[0] == "put") == (truth[1] in events):
        return False
    others = [event[1] for time, event in events.items() if event[0] == "come" and time != truth[1]]
    return truth[0] == "strike" or truth[2][0] != "come" or truth[2][1] not in others


def rows(alphabet, length):
    """All rows of so many events of an alphabet in which nobody comes twice."""
    if length == 0:
        return [()]
    found = []
    for row in rows(alphabet, length - 1):
        for event in alphabet:
            if event[0] != "come" or not any(other[:2] == event[:2] for other in row):
                found.append(row + (event,))
    return found


def timed(row, first=1, stride=2):
    """The events of a row at odd times, so that there is room between them."""
    return {first + stride * place: event for place, event in enumerate(row)}


SMALL = [
    ("come", "x", ("a", "b"), 1, None),
    ("come", "y", ("b", "a"), 2, "a"),
    ("come", "z", ("a",), 1, "a"),
    ("place", "a"),
    ("place", "b"),
    ("leave", "x"),
    ("withdraw", "a"),
    ("change", "x", ("b",)),
    ("change", "y", ("a", "b")),
    ("gather",),
    ("round",),
]
