"""[12.7]: places that are given back."""

import unittest

from oracle import Naive, NoToken
from samples import ALL_RANKS, HOMES, TWO, Draw, odd_objects, rows
from seatroads.back import back_run, parted_back
from seatroads.courses import Course
from seatroads.errors import BadEvent
from seatroads.offices import Office
from seatroads.runs import run_of

OFFICE = Office(TWO)


def come(name, wishes, points=0, home=None):
    return ("come", name, tuple(wishes), points, home)


class BackNaive(Naive):
    """Events gone through naively, with places that are given back."""

    def __init__(self, ranks, events):
        self.has = {}
        super().__init__(ranks, dict(enumerate(events)))

    def give(self, time, one, kind):
        super().give(time, one, kind)
        self.has[one["name"]] = kind

    def hear(self, time, event):
        if event[0] != "back":
            return super().hear(time, event)
        if event[1] in self.has:
            super().hear(time, ("place", self.has.pop(event[1])))
        else:
            super().hear(time, ("leave", event[1]))

    def told(self):
        last = len(self.events)
        return self.waiting(last), self.free(last), dict(sorted(self.has.items()))


def token(high, low):
    """The token by which one end is higher than the other one, None for even; NoToken if there is none."""
    ups, lows = set(high[0]), set(low[0])
    if (ups, high[1]) == (lows, low[1]):
        return None
    if high[1] == low[1] and lows < ups and len(ups) == len(lows) + 1:
        return ("waits", min(ups - lows))
    if ups == lows:
        for kind in low[1]:
            fewer = {one: many - (one == kind) for one, many in low[1].items()}
            if {one: many for one, many in fewer.items() if many} == high[1]:
                return ("free", kind)
    raise NoToken()


def drawn_events(draw, ranks, length, changes=True):
    """Events, places that are given back among them."""
    events = list(draw.events(ranks, length, rounds=False).values())
    events = [event for event in events if changes or event[0] != "change"]
    for _ in range(length // 3):
        events.insert(draw.rng.randint(0, len(events)), ("back", "p" + str(draw.rng.randint(0, 4))))
    return events


class BackRunTest(unittest.TestCase):

    def test_told(self):
        events = [("place", "a"), come("x", "a"), come("y", "ab", 1), come("z", "a", 2), ("place", "b"), ("place", "b")]
        self.assertEqual(back_run(OFFICE, events), (["z"], {"b": 1}, {"x": "a", "y": "b"}))
        self.assertEqual(back_run(office=OFFICE, events=tuple(events) + (["back", "x"],)), ([], {"b": 1}, {"y": "b", "z": "a"}))
        self.assertEqual(back_run(OFFICE, events + [("back", "y")]), (["z"], {"b": 2}, {"x": "a"}))
        self.assertEqual(back_run(OFFICE, events + [("back", "z")]), ([], {"b": 1}, {"x": "a", "y": "b"}))
        self.assertEqual(back_run(OFFICE, events + [("back", "w"), ("back", "x"), ("back", "x")]),
                         ([], {"b": 1}, {"y": "b", "z": "a"}))

    def test_nothing(self):
        self.assertEqual(back_run(OFFICE, []), ([], {}, {}))
        self.assertEqual(back_run(Office({}), [("back", "x"), come("x", ""), ("back", "x")]), ([], {}, {}))

    def test_the_order_of_what_is_told(self):
        events = [("place", "b"), ("place", "a"), come("z", "b"), come("y", ""), come("x", ""), ("place", "b"), come("w", "a")]
        waits, free, has = back_run(OFFICE, events + [("change", "y", ()), ("place", "a")])
        self.assertEqual((waits, list(free), list(has)), (["x", "y"], ["a", "b"], ["w", "z"]))

    def test_without_backs_it_is_as_a_run(self):
        draw = Draw(230)
        for number in range(80):
            ranks = ALL_RANKS[number % len(ALL_RANKS)]
            events = draw.events(ranks, 14, rounds=False)
            run = run_of(Course(Office(ranks), events))
            self.assertEqual(back_run(Office(ranks), list(events.values())), (
                run.waiting(10 ** 6), run.free(10 ** 6), {name: kind for _, name, kind in sorted(
                    run.letters(), key=lambda letter: letter[1])}))

    def test_against_a_going_of_its_own(self):
        draw = Draw(231)
        given = 0
        for number in range(200):
            ranks = ALL_RANKS[number % len(ALL_RANKS)]
            events = drawn_events(draw, ranks, 16)
            found = back_run(Office(ranks), events)
            self.assertEqual(found, BackNaive(ranks, events).told())
            self.assertEqual(list(found[2]), sorted(found[2]))
            given += found != back_run(Office(ranks), [event for event in events if event[0] != "back"])
        self.assertGreater(given, 80)

    def test_bad_events(self):
        for thing in [None, True, 3, "", {}, {0: ("place", "a")}, OFFICE]:
            with self.assertRaises(BadEvent) as caught:
                back_run(OFFICE, thing)
            self.assertEqual(caught.exception.time, 0)
        for thing in odd_objects() + [("gather",), ("round",), ("back",), ("back", "X"), ("back", None), ("back", "x", 1),
                                      ("Back", "x"), ("place", "c"), come("x", "c"), "back", ("back", ["x"]), [["back"], "x"]]:
            with self.assertRaises(BadEvent) as caught:
                back_run(OFFICE, [come("w", "a"), thing, None])
            self.assertEqual(caught.exception.time, 1)
        with self.assertRaises(BadEvent) as caught:
            back_run(OFFICE, [come("w", "a"), ("back", "w"), come("w", "b"), None])
        self.assertEqual(caught.exception.time, 2)

    def test_what_is_passed_stays(self):
        events = [["place", "a"], ["come", "x", ["a"], 0, None], ["back", "x"]]
        for part in back_run(OFFICE, events):
            part.clear()
        self.assertEqual(events, [["place", "a"], ["come", "x", ["a"], 0, None], ["back", "x"]])
        self.assertEqual(back_run(OFFICE, events), ([], {"a": 1}, {}))


class PartedBackTest(unittest.TestCase):

    def check(self, ranks):
        office = Office(ranks)
        events, at = parted_back(office=office)
        self.assertIsInstance(events, list)
        self.assertEqual(events[at][0], "come")
        without = events[:at] + events[at + 1:]
        ends = [back_run(office, row) for row in (events, without)]
        self.assertEqual(ends, [BackNaive(ranks, row).told() for row in (events, without)])
        for high, low in (ends, ends[::-1]):
            with self.assertRaises(NoToken):
                token(high, low)

    def test_in_every_office_with_a_kind(self):
        words = ["points", "few", "home", "early", "late"]
        for row in [()] + [(one,) for one in words] + [(one, other) for one in words for other in words if one != other]:
            self.check({"a": row})
            self.check({"b": row, "a": ["late"], "c": []})
            self.check({"b": row, "a": [], "c": ["late"]})
        for ranks in ALL_RANKS + [{"a": ("points", "late", "early")}, {"a": ("early", "late")}, {"kind9": words},
                                  {"kind9": words[::-1]}, {"a": ["late"]}]:
            self.check(ranks)

    def test_what_is_returned_is_new(self):
        events, at = parted_back(OFFICE)
        kept = list(events)
        events.clear()
        self.assertEqual(parted_back(OFFICE), (kept, at))

    def test_without_backs_the_token_is_kept(self):
        draw = Draw(232)
        for number in range(80):
            ranks = ALL_RANKS[number % len(ALL_RANKS)]
            events = list(draw.events(ranks, 12, rounds=False).values())
            for at, event in enumerate(events):
                if event[0] == "come":
                    token(back_run(Office(ranks), events), back_run(Office(ranks), events[:at] + events[at + 1:]))

    def differences(self, ranks, events, at):
        one, other = [back_run(Office(ranks), row) for row in (events, events[:at] + events[at + 1:])]
        return abs(len(one[0]) - len(other[0])) + abs(sum(one[1].values()) - sum(other[1].values()))

    def test_with_one_kind_and_no_change_the_numbers_differ_by_one_at_most(self):
        draw = Draw(233)
        lost = 0
        for number in range(250):
            ranks = [{"a": ["points"]}, {"a": []}, {"a": ["late", "few"]}, {"a": ["home", "points"]}][number % 4]
            events = drawn_events(draw, ranks, 14, changes=False)
            for at, event in enumerate(events):
                if event[0] == "come":
                    self.assertLessEqual(self.differences(ranks, events, at), 1)
                    ends = [back_run(Office(ranks), row) for row in (events, events[:at] + events[at + 1:])]
                    try:
                        token(*ends)
                    except NoToken:
                        try:
                            token(*ends[::-1])
                        except NoToken:
                            lost += 1
        self.assertGreater(lost, 5)
        alphabet = [("place", "a"), come("x", "a"), come("y", "a", 1), ("back", "x"), ("back", "y"), ("leave", "y")]
        for length in range(1, 6):
            for row in rows(alphabet, length):
                for at in [at for at, event in enumerate(row) if event[0] == "come"]:
                    self.assertLessEqual(self.differences({"a": ["points"]}, list(row), at), 1)

    def test_with_more_kinds_they_can_differ_by_more(self):
        draw = Draw(234)
        most = 0
        for number in range(200):
            events = drawn_events(draw, HOMES, 16)
            for at, event in enumerate(events):
                if event[0] == "come":
                    most = max(most, self.differences(HOMES, events, at))
        self.assertGreater(most, 1)


if __name__ == "__main__":
    unittest.main()
