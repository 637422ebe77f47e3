"""[4.5]: what truths change, and from when on all is as it was."""

import unittest

from oracle import Naive, all_heard
from samples import ALL_RANKS, SMALL, TWO, Draw, can_be_heard, odd_objects, rows, timed
from seatroads.courses import Course
from seatroads.errors import BadTime, BadTruth
from seatroads.offices import Office
from seatroads.reach import even_from, gone_and_come, touched, unlike_at
from seatroads.roads import roads


def come(name, wishes, points=0, home=None):
    return ("come", name, tuple(wishes), points, home)


class ReachTest(unittest.TestCase):

    def setUp(self):
        self.course = Course(Office({"a": [], "b": []}), {
            10: ("place", "a"), 20: come("x", "a"), 30: come("y", "ab"), 40: ("place", "b"), 50: come("z", "b"),
            60: ("place", "b"), 70: ("leave", "z")})

    def test_gone_and_come(self):
        self.assertEqual(gone_and_come(self.course, [("strike", 20)]),
                         ([(20, "x", "a"), (40, "y", "b"), (60, "z", "b")], [(30, "y", "a"), (50, "z", "b")]))
        self.assertEqual(gone_and_come(course=self.course, truths=[]), ([], []))
        gone, came = gone_and_come(self.course, [("strike", 70)])
        self.assertEqual((gone, came), ([], []))
        self.assertIsInstance(gone_and_come(self.course, []), tuple)

    def test_both_lists_ascend(self):
        course = Course(Office({"a": []}), {1: ("gather",), 2: come("z", "a"), 3: come("b", "a"), 4: ("place", "a"),
                                            5: ("place", "a"), 6: ("round",), 7: ("place", "a"), 8: come("a", "a")})
        self.assertEqual(gone_and_come(course, [("strike", 1)]), (
            [(6, "b", "a"), (6, "z", "a")], [(4, "z", "a"), (5, "b", "a")]))
        self.assertEqual(gone_and_come(course.with_truths([("strike", 1)]), [("put", 1, ("gather",))]), (
            [(4, "z", "a"), (5, "b", "a")], [(6, "b", "a"), (6, "z", "a")]))

    def test_unlike_at(self):
        truths = [("strike", 20)]
        for time, wanted in [(0, ([], [], {})), (19, ([], [], {})), (20, ([], [], {"a": 1})), (29, ([], [], {"a": 1})),
                             (30, ([], ["y"], {})), (40, ([], [], {"b": 1})), (50, ([], ["z"], {})),
                             (60, ([], [], {"b": 1})), (10 ** 6, ([], [], {"b": 1}))]:
            self.assertEqual(unlike_at(self.course, truths, time), wanted)
        self.assertEqual(unlike_at(course=self.course, truths=[("strike", 60)], time=60), (["z"], [], {}))
        self.assertEqual(unlike_at(self.course, [("strike", 60)], 70), ([], [], {}))
        self.assertEqual(unlike_at(self.course, [("strike", 10)], 20), (["x"], [], {}))

    def test_unlike_at_of_several_ascends_and_counts(self):
        truths = [("put", 80, come("m", "")), ("put", 81, come("d", "")), ("put", 2, ("place", "a")),
                  ("strike", 10), ("strike", 60), ("put", 90, ("place", "a")), ("put", 91, ("place", "a")),
                  ("alter", 20, come("q", ""))]
        self.assertEqual(unlike_at(self.course, truths, 100), (["d", "m", "q"], [], {"a": 2}))
        back = self.course.with_truths([("put", 80, come("m", "")), ("put", 81, come("d", ""))])
        truths = [("strike", 81), ("strike", 80), ("put", 82, ("place", "b")), ("put", 1, ("place", "a"))]
        self.assertEqual(unlike_at(back, truths, 100), ([], ["d", "m"], {"b": 2}))

    def test_numbers_of_free_places_are_new_less_old(self):
        course = Course(Office({"b": [], "a": [], "c": []}), {1: ("place", "b"), 2: ("place", "b"), 3: ("place", "c")})
        told = unlike_at(course, [("strike", 1), ("put", 4, ("place", "a")), ("strike", 2)], 5)
        self.assertEqual(told, ([], [], {"a": 1, "b": -2}))
        self.assertEqual(list(told[2]), ["a", "b"])

    def test_even_from(self):
        course = self.course
        self.assertEqual(even_from(course, []), 0)
        self.assertEqual(even_from(course, [("strike", 70)]), 0)
        self.assertEqual(even_from(course, [("strike", 60)]), 70)
        self.assertIsNone(even_from(course, [("strike", 10)]))
        self.assertIsNone(even_from(course, [("strike", 20)]))
        self.assertEqual(even_from(course=course, truths=[("put", 15, ("place", "a")), ("put", 65, ("withdraw", "b"))]),
                         65)
        self.assertIsNone(even_from(course, [("put", 99, ("place", "a"))]))
        self.assertIsNone(even_from(course, [("put", 10 ** 6, ("place", "a"))]))

    def test_even_from_when_even_amid(self):
        course = self.course
        truths = [("put", 5, ("place", "b")), ("put", 6, ("withdraw", "b")), ("put", 80, ("place", "a")),
                  ("put", 81, ("withdraw", "a"))]
        self.assertEqual(even_from(course, truths), 81)
        self.assertEqual(even_from(course, truths[:2]), 6)
        self.assertIsNone(even_from(course, truths[:3]))

    def test_even_from_at_time_0(self):
        course = Course(Office({"a": []}), {0: ("place", "a"), 4: ("withdraw", "a")})
        self.assertEqual(even_from(course, [("strike", 0)]), 4)
        self.assertEqual(even_from(course, [("put", 1, ("leave", "x"))]), 0)

    def test_names_alone_count_for_even(self):
        course = Course(Office({"a": [], "b": []}), {1: come("x", "a"), 2: come("y", "a")})
        truths = [("alter", 1, come("x", "b", 9, "a")), ("put", 3, ("change", "y", ("b",)))]
        self.assertEqual(even_from(course, truths), 0)
        self.assertEqual(even_from(course, [("put", 3, ("change", "x", ("b",)))]), 0)
        self.assertEqual(even_from(course, truths + [("put", 8, ("place", "b")), ("put", 9, ("withdraw", "b"))]), None)

    def test_touched(self):
        self.assertEqual(touched(self.course, [("strike", 20)]), ["y"])
        self.assertEqual(touched(self.course, [("strike", 10)]), ["x"])
        self.assertEqual(touched(self.course, [("strike", 60)]), ["z"])
        self.assertEqual(touched(course=self.course, truths=[]), [])
        self.assertEqual(touched(self.course, [("strike", 40)]), ["z"])
        self.assertEqual(touched(self.course, [("alter", 30, come("y", "b"))]), [])
        self.assertEqual(touched(self.course, [("strike", 30)]), [])
        self.assertEqual(touched(self.course, [("put", 15, come("w", "a"))]), ["x"])

    def test_touched_ascends_and_lets_times_differ(self):
        course = Course(Office({"a": [], "b": []}), {1: come("z", "ab"), 2: come("m", "ba"), 3: ("place", "a"),
                                                     4: ("place", "a")})
        self.assertEqual(touched(course, [("alter", 3, ("place", "b")), ("strike", 4)]), ["m", "z"])
        self.assertEqual(touched(course, [("strike", 3), ("put", 8, ("place", "a"))]), [])
        self.assertEqual(touched(course, [("alter", 3, ("place", "b"))]), ["z"])

    def test_truths_of_gathers_and_rounds_are_let(self):
        truths = [("put", 5, ("gather",)), ("put", 65, ("round",))]
        self.assertEqual(gone_and_come(self.course, truths), (
            [(20, "x", "a"), (40, "y", "b"), (60, "z", "b")], [(65, "x", "a"), (65, "y", "b"), (65, "z", "b")]))
        self.assertEqual(unlike_at(self.course, truths, 50), (["x", "y"], [], {"a": 1, "b": 1}))
        self.assertEqual(even_from(self.course, truths), 65)
        self.assertEqual(touched(self.course, truths), [])


class ErrorsTest(unittest.TestCase):

    COURSE = Course(Office({"a": []}), {1: come("x", "a"), 2: ("gather",)})

    def bad_truth(self, truths, index):
        course = self.COURSE
        for ask in [lambda: gone_and_come(course, truths), lambda: even_from(course, truths),
                    lambda: touched(course, truths), lambda: unlike_at(course, truths, 3),
                    lambda: unlike_at(course, truths, None), lambda: unlike_at(course, truths, -1)]:
            with self.assertRaises(BadTruth) as caught:
                ask()
            self.assertEqual(caught.exception.index, index)

    def test_bad_truths(self):
        for thing in odd_objects():
            if not isinstance(thing, (list, tuple)):
                self.bad_truth(thing, 0)
            self.bad_truth([thing], 0)
            self.bad_truth((("strike", 2), thing, None), 1)
        self.bad_truth([("strike", 2), ("strike", 2)], 1)
        self.bad_truth([("strike", 3)], 0)
        self.bad_truth([("put", 1, ("place", "a"))], 0)
        self.bad_truth([("put", 3, come("x", "a"))], 0)

    def test_bad_times(self):
        for time in odd_objects() + [-1, 10 ** 6 + 1, True, False, "1", [1]]:
            with self.assertRaises(BadTime) as caught:
                unlike_at(self.COURSE, [("strike", 2)], time)
            self.assertIs(caught.exception.time, time)

    def test_what_is_passed_stays_and_what_is_returned_may_be_changed(self):
        truths = [["put", 3, ["come", "y", ["a"], 0, None]], ["strike", 1]]
        before = repr(truths)
        events = self.COURSE.events()
        for _ in range(2):
            gone, came = gone_and_come(self.COURSE, truths)
            waits, waited, more = unlike_at(self.COURSE, truths, 5)
            self.assertEqual((gone, came, waits, waited, more), ([], [], ["y"], ["x"], {}))
            for made in (gone, came, waits, waited):
                made.append("more")
            more["a"] = 1
            self.assertEqual(touched(self.COURSE, truths), [])
            touched(self.COURSE, truths).append("x")
        self.assertEqual(repr(truths), before)
        self.assertEqual(self.COURSE.events(), events)


class AgainstTheOracleTest(unittest.TestCase):

    def check(self, ranks, events, truths):
        course = Course(Office(ranks), events)
        later = all_heard(events, truths)
        old, new = Naive(ranks, events), Naive(ranks, later)
        last = max(list(events) + list(later) + [0]) + 1
        gone = sorted(set(old.letters) - set(new.letters))
        came = sorted(set(new.letters) - set(old.letters))
        self.assertEqual(gone_and_come(course, truths), (gone, came))
        even = [self.check_at(course, truths, old, new, time) for time in range(last + 1)]
        since = None
        for time in range(last, -1, -1):
            if not even[time]:
                break
            since = time
        self.assertEqual(even_from(course, truths), since, (events, truths))
        self.check_touched(course, truths, old, new)
        return old, new

    def check_at(self, course, truths, old, new, time):
        waits, waited = set(new.waiting(time)), set(old.waiting(time))
        free, was = new.free(time), old.free(time)
        more = {kind: free.get(kind, 0) - was.get(kind, 0) for kind in sorted(set(free) | set(was))}
        more = {kind: many for kind, many in more.items() if many}
        told = unlike_at(course, truths, time)
        self.assertEqual(told, (sorted(waits - waited), sorted(waited - waits), more))
        self.assertEqual(list(told[2]), sorted(more))
        return waits == waited and not more

    def check_touched(self, course, truths, old, new):
        names = [{event[1] for event in run.events.values() if event[0] == "come"} for run in (old, new)]
        kinds = [{letter[1]: letter[2] for letter in run.letters} for run in (old, new)]
        wanted = sorted(name for name in names[0] & names[1] if kinds[0].get(name) != kinds[1].get(name))
        self.assertEqual(touched(course, truths), wanted)

    def check_facts(self, ranks, events, truths, old, new):
        """Along roads at most as many differ as there are roads; who is touched stands in a step."""
        course = Course(Office(ranks), events)
        made = roads(course, truths)
        for time in range(max(list(old.events) + list(new.events) + [0]) + 1):
            waits, waited, more = unlike_at(course, truths, time)
            self.assertLessEqual(len(waits) + len(waited) + sum(abs(many) for many in more.values()), len(made))
        if not old.rounds and not new.rounds:
            times = [step[0] for road in made for step in road.steps]
            named = [token[1] for road in made for step in road.steps for token in step[1:] if token]
            for name in touched(course, truths):
                at = [[letter[2] for letter in run.letters if letter[:2] == (time, name)]
                      for time in times for run in (old, new)]
                self.assertTrue(name in named or any(at), (events, truths, name))

    def test_small_courses_gone_through_whole(self):
        putting = [("come", "w", ("b", "a"), 1, "b"), ("place", "b"), ("change", "x", ("b", "a")), ("round",)]
        for row in rows(SMALL, 2):
            events = timed(row)
            for time in range(5):
                for event in putting:
                    for truth in (("put", time, event), ("strike", time)):
                        if can_be_heard(events, truth):
                            self.check(TWO, events, [truth])

    def test_drawn(self):
        draw = Draw(31)
        for number in range(500):
            ranks = ALL_RANKS[number % 4]
            events = draw.events(ranks, draw.rng.randint(0, 11))
            truths = draw.truths(ranks, events, draw.rng.randint(0, 4), moving=True)
            self.check(ranks, events, truths)

    def test_facts(self):
        draw = Draw(32)
        for number in range(700):
            ranks = ALL_RANKS[number % 4]
            events = draw.events(ranks, draw.rng.randint(0, 11), rounds=number % 3 == 0)
            truths = draw.truths(ranks, events, draw.rng.randint(1, 4))
            old, new = self.check(ranks, events, truths)
            self.check_facts(ranks, events, truths, old, new)


if __name__ == "__main__":
    unittest.main()
