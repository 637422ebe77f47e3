"""[4.6]: runs that hear truths one by one, in any order."""

import unittest
from itertools import permutations

from samples import ALL_RANKS, Draw, odd_objects
from seatroads.courses import Course
from seatroads.errors import BadTime, BadTruth, NoRoad
from seatroads.known import Known
from seatroads.offices import Office
from seatroads.roads import roads
from seatroads.runs import run_of


def come(name, wishes, points=0, home=None):
    return ("come", name, tuple(wishes), points, home)


def told(made):
    return [(road.truth, road.higher, road.steps) for road in made]


class KnownTest(unittest.TestCase):

    def setUp(self):
        self.course = Course(Office({"a": ["points"], "b": []}), {
            10: ("place", "a"), 20: come("x", "a"), 30: come("y", "ab"), 40: ("gather",), 50: ("place", "b"),
            60: ("round",), 70: come("z", "a")})
        self.known = Known(self.course)

    def check(self, known, course):
        run = run_of(course)
        self.assertEqual(known.course(), course)
        self.assertEqual(known.letters(), run.letters())
        for time in list(range(0, 120, 5)) + [10 ** 6]:
            self.assertEqual(known.waiting(time), run.waiting(time))
            self.assertEqual(known.free(time), run.free(time))

    def test_nothing_heard(self):
        self.assertEqual(self.known.heard(), [])
        self.check(self.known, self.course)
        self.assertEqual(self.known.letters(), [(20, "x", "a"), (60, "y", "b")])

    def test_by_the_shown_names(self):
        known = Known(course=self.course)
        self.assertEqual(len(known.hear(truth=("strike", 20))), 1)
        self.assertEqual(known.waiting(time=60), [])
        self.assertEqual(known.free(time=60), {"b": 1})

    def test_one_by_one(self):
        truths = [("strike", 20), ["put", 5, ["change", "y", ["b"]]], ("put", 65, ("change", "y", ("a",))),
                  ("alter", 50, ["place", "a"]), ("put", 80, ("leave", "z")), ["strike", 80]]
        course, heard = self.course, []
        for truth in truths:
            wanted = told(roads(course, [truth]))
            made = self.known.hear(truth)
            self.assertIsInstance(made, list)
            self.assertEqual(told(made), wanted)
            self.assertTrue(all(road.truth == 0 for road in made))
            course = course.with_truths([truth])
            heard.append(truth)
            self.assertEqual(len(self.known.heard()), len(heard))
            self.check(self.known, course)
        self.assertEqual(self.known.heard(), [
            ("strike", 20), ("put", 5, ("change", "y", ("b",))), ("put", 65, ("change", "y", ("a",))),
            ("alter", 50, ("place", "a")), ("put", 80, ("leave", "z")), ("strike", 80)])

    def test_a_put_and_then_the_strike_leads_back(self):
        for event in [come("w", "ba", 3), ("place", "b"), ("leave", "y"), ("withdraw", "a"), ("change", "y", ("a",))]:
            for time in (0, 15, 35, 55, 65, 90):
                known = Known(self.course)
                one = known.hear(("put", time, event))
                other = known.hear(("strike", time))
                self.check(known, self.course)
                ends = [(road.higher, road.steps) for road in other]
                turned = {"new": "old", "old": "new"}
                self.assertEqual(ends, [(turned[road.higher], road.steps) for road in reversed(one)])

    def test_bad_truths_change_nothing(self):
        self.known.hear(("strike", 70))
        now = self.course.with_truths([("strike", 70)])
        for thing in odd_objects() + [("strike", 70), ("strike", 11), ("put", 10, ("place", "a")), ("strike",),
                                      ("put", 71, come("x", "a")), ("alter", 70, ("place", "a")), [("strike", 10)]]:
            with self.assertRaises(BadTruth) as caught:
                self.known.hear(thing)
            self.assertEqual(caught.exception.index, 0)
        self.assertEqual(self.known.heard(), [("strike", 70)])
        self.check(self.known, now)

    def test_no_roads_change_nothing(self):
        for truth in [("strike", 40), ("strike", 60), ("put", 65, ("gather",)), ("put", 65, ["round"]),
                      ("alter", 20, ("round",)), ("alter", 40, ("place", "a"))]:
            with self.assertRaises(NoRoad) as caught:
                self.known.hear(truth)
            self.assertEqual(caught.exception.index, 0)
            self.assertEqual(self.known.heard(), [])
            self.check(self.known, self.course)

    def test_bad_times(self):
        for time in odd_objects() + [-1, 10 ** 6 + 1, True, False, "3", [3]]:
            for ask in (self.known.waiting, self.known.free):
                with self.assertRaises(BadTime) as caught:
                    ask(time)
                self.assertIs(caught.exception.time, time)

    def test_what_is_passed_and_returned_may_be_changed(self):
        truth = ["put", 80, ["come", "w", ["b"], 0, None]]
        made = self.known.hear(truth)
        self.assertEqual(truth, ["put", 80, ["come", "w", ["b"], 0, None]])
        truth[2][2].append("a")
        made.clear()
        self.known.heard().clear()
        self.known.letters().clear()
        self.known.waiting(80).clear()
        self.known.free(0)["a"] = 5
        self.assertEqual(self.known.heard(), [("put", 80, ("come", "w", ("b",), 0, None))])
        self.check(self.known, self.course.with_truths([("put", 80, come("w", "b"))]))
        self.assertEqual(len(self.course), 7)

    def test_truths_of_unlike_times_in_any_order(self):
        draw = Draw(41)
        many = 0
        for number in range(150):
            ranks = ALL_RANKS[number % 4]
            events = draw.events(ranks, draw.rng.randint(2, 10))
            truths = draw.truths(ranks, events, 3)
            if len({truth[1] for truth in truths}) < 3:
                continue
            ends = [self.heard_in_order(Course(Office(ranks), events), row) for row in permutations(truths)]
            ends = [end for end in ends if end is not None]
            many += len(ends) > 1
            for end in ends:
                self.assertEqual(end.course(), ends[0].course())
                self.assertEqual(end.letters(), ends[0].letters())
        self.assertGreater(many, 50)

    def heard_in_order(self, course, truths):
        known = Known(course)
        try:
            for truth in truths:
                known.hear(truth)
        except BadTruth:
            return None
        return known


if __name__ == "__main__":
    unittest.main()
