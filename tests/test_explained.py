"""[4.8]: which truths of a menu explain letters."""

import unittest
from itertools import combinations

from oracle import Naive, all_heard
from samples import ALL_RANKS, Draw, can_be_heard, odd_objects
from seatroads.courses import Course
from seatroads.errors import BadLetter, BadTruth
from seatroads.explained import explained
from seatroads.offices import Office


def come(name, wishes, points=0, home=None):
    return ("come", name, tuple(wishes), points, home)


class ExplainedTest(unittest.TestCase):

    def setUp(self):
        self.course = Course(Office({"a": [], "b": []}), {
            10: ("place", "a"), 20: come("x", "ab"), 30: come("y", "ab"), 40: ("place", "b")})

    def test_as_it_is(self):
        letters = [(20, "x", "a"), (40, "y", "b")]
        self.assertEqual(explained(self.course, [], letters), [()])
        self.assertEqual(explained(self.course, [("strike", 20), ("strike", 10)], letters), [()])
        self.assertEqual(explained(course=self.course, menu=(), letters=tuple(letters)), [()])
        self.assertEqual(explained(Course(Office({}), {}), [], []), [()])

    def test_letters_in_any_order_and_lists_for_tuples(self):
        self.assertEqual(explained(self.course, [], [[40, "y", "b"], (20, "x", "a")]), [()])
        self.assertEqual(explained(self.course, [], ([40, "y", "b"], [20, "x", "a"])), [()])

    def test_just_these_letters(self):
        menu = [("strike", 40), ("strike", 20), ("strike", 30), ("alter", 10, ["place", "b"])]
        self.assertEqual(explained(self.course, menu, [(20, "x", "a")]), [(0,), (2,)])
        self.assertEqual(explained(self.course, menu, [(30, "y", "a")]), [(1,)])
        self.assertEqual(explained(self.course, menu, []), [(1, 2)])
        self.assertEqual(explained(self.course, menu, [(20, "x", "b"), (40, "y", "b")]), [(3,)])
        self.assertEqual(explained(self.course, menu, [(40, "y", "b")]), [])
        self.assertEqual(explained(self.course, menu, [(20, "x", "a"), (40, "x", "b")]), [])
        self.assertEqual(explained(self.course, menu, [(20, "x", "b")]), [(0, 3), (2, 3)])

    def test_all_least_sets_in_the_order_of_tuples(self):
        menu = [("put", 50, ("place", "a")), ("strike", 40), ("put", 60, ("place", "b")), ("strike", 10),
                ("put", 70, ("leave", "q"))]
        self.assertEqual(explained(self.course, menu, [(20, "x", "a"), (50, "y", "a")]), [(0, 1)])
        self.assertEqual(explained(self.course, menu, [(40, "x", "b"), (50, "y", "a")]), [(0, 3)])
        self.assertEqual(explained(self.course, menu, [(40, "x", "b")]), [(3,)])
        menu = [("strike", 30), ("put", 35, ("leave", "y")), ("strike", 40), ("put", 15, ("gather",))]
        self.assertEqual(explained(self.course, menu, [(20, "x", "a")]), [(0,), (1,), (2,)])
        self.assertEqual(explained(self.course, menu, []), [(3,)])

    def test_gathers_and_rounds_are_let(self):
        menu = [("put", 15, ("gather",)), ("put", 50, ("round",))]
        self.assertEqual(explained(self.course, menu, []), [(0,)])
        self.assertEqual(explained(self.course, menu, [(50, "x", "a"), (50, "y", "b")]), [(0, 1)])

    def test_two_truths_of_one_time_are_passed_over(self):
        menu = [("strike", 20), ("alter", 20, come("x", "b")), ("strike", 20)]
        self.assertEqual(explained(self.course, menu, [(30, "y", "a")]), [(0,), (2,)])
        self.assertEqual(explained(self.course, menu, [(30, "y", "a"), (40, "x", "b")]), [(1,)])
        menu = [("put", 5, come("w", "a")), ("put", 5, come("v", "b"))]
        self.assertEqual(explained(self.course, menu, [(10, "w", "a"), (40, "v", "b")]), [])

    def test_sets_that_cannot_be_heard_together_are_passed_over(self):
        menu = [("put", 5, come("w", "a")), ("put", 6, come("w", "b")), ("strike", 20)]
        self.assertEqual(explained(self.course, menu, [(10, "w", "a"), (40, "x", "b")]), [(0,)])
        self.assertEqual(explained(self.course, menu, [(10, "w", "a"), (40, "w", "b")]), [])
        self.assertEqual(explained(self.course, menu, [(20, "x", "a"), (40, "w", "b")]), [(1,)])

    def test_letters_of_anybody(self):
        self.assertEqual(explained(self.course, [], [(7, "zoe", "a")]), [])
        self.assertEqual(explained(self.course, [], []), [])

    def bad(self, error, menu, letters):
        with self.assertRaises(error) as caught:
            explained(self.course, menu, letters)
        return caught.exception.index

    def test_bad_menus(self):
        for thing in odd_objects():
            if not isinstance(thing, (list, tuple)):
                self.assertEqual(self.bad(BadTruth, thing, []), 0)
            self.assertEqual(self.bad(BadTruth, [thing], []), 0)
            self.assertEqual(self.bad(BadTruth, [("strike", 10), ("strike", 10), thing, None], []), 2)
        self.assertEqual(self.bad(BadTruth, "strike", []), 0)

    def test_each_of_the_menu_is_asked_by_itself(self):
        self.assertEqual(self.bad(BadTruth, [("strike", 20), ("put", 25, come("x", "a"))], []), 1)
        self.assertEqual(self.bad(BadTruth, [("strike", 20), ("put", 20, come("z", "a"))], []), 1)
        self.assertEqual(self.bad(BadTruth, [("strike", 20), ("strike", 25)], []), 1)
        self.assertEqual(self.bad(BadTruth, [("put", 25, ("place", "a")), ("alter", 25, ("place", "b"))], []), 1)
        self.assertEqual(explained(self.course, [("put", 25, ("place", "a")), ("put", 25, ("place", "b"))], []), [])

    def test_bad_letters(self):
        good = (20, "x", "a")
        for thing in odd_objects():
            if not isinstance(thing, (list, tuple)):
                self.assertEqual(self.bad(BadLetter, [], thing), 0)
            self.assertEqual(self.bad(BadLetter, [], [thing]), 0)
            self.assertEqual(self.bad(BadLetter, [], [good, thing, thing]), 1)
            self.assertEqual(self.bad(BadLetter, [], [good, (thing, "x", "b")]), 1)
            self.assertEqual(self.bad(BadLetter, [], [good, (20, thing, "b")]), 1)
            self.assertEqual(self.bad(BadLetter, [], [good, (20, "x", thing)]), 1)
        for thing in [(20, "x"), (20, "x", "c"), (-1, "x", "a"), (10 ** 6 + 1, "x", "a"), ("x", 20, "a"),
                      (20, "a"), (20, "x", "a", "b"), (20, "X", "a"), (True, "x", "a"), "20x", (20, "abcdefghi", "a")]:
            self.assertEqual(self.bad(BadLetter, [], [thing]), 0)
        for thing in [(0, "abcdefgh", "a"), (10 ** 6, "0", "b")]:
            self.assertEqual(explained(self.course, [], [thing]), [])

    def test_letters_that_stood_before(self):
        self.assertEqual(self.bad(BadLetter, [], [(20, "x", "a"), (20, "x", "b"), (20, "x", "a")]), 2)
        self.assertEqual(self.bad(BadLetter, [], [(20, "x", "a"), [20, "x", "a"]]), 1)
        self.assertEqual(self.bad(BadLetter, [], [(20, "x", "a"), [20, "x", "a"], None]), 1)
        self.assertEqual(self.bad(BadLetter, [], [(20, "x", "a"), None, (20, "x", "a")]), 1)

    def test_bad_menus_are_ahead_of_bad_letters(self):
        self.assertEqual(self.bad(BadTruth, [("strike", 20), None], None), 1)
        self.assertEqual(self.bad(BadTruth, None, [None]), 0)
        self.assertEqual(self.bad(BadTruth, [("strike", 20), ("strike", 21)], [None]), 1)

    def test_what_is_passed_stays_and_what_is_returned_may_be_changed(self):
        menu = [["strike", 40], ["put", 5, ["come", "w", ["b"], 0, None]]]
        letters = [[20, "x", "a"]]
        before, events = repr((menu, letters)), self.course.events()
        made = explained(self.course, menu, letters)
        self.assertEqual(made, [(0,)])
        self.assertIsInstance(made, list)
        self.assertIsInstance(made[0], tuple)
        made.clear()
        self.assertEqual(repr((menu, letters)), before)
        self.assertEqual(self.course.events(), events)
        self.assertEqual(explained(self.course, menu, letters), [(0,)])


class AgainstAllSetsTest(unittest.TestCase):

    def naive(self, ranks, events, menu, letters):
        """All sets of the menu gone through, whichever their sizes."""
        found = []
        for size in range(len(menu) + 1):
            for chosen in combinations(range(len(menu)), size):
                truths = [menu[number] for number in chosen]
                if self.can_be_heard(events, truths):
                    if sorted(Naive(ranks, all_heard(events, truths)).letters) == sorted(letters):
                        found.append(chosen)
        return sorted(chosen for chosen in found if len(chosen) == len(found[0]))

    def can_be_heard(self, events, truths):
        if len({truth[1] for truth in truths}) < len(truths):
            return False
        for number, truth in enumerate(truths):
            if not can_be_heard(all_heard(events, truths[:number]), truth):
                return False
        return True

    def test_drawn(self):
        draw = Draw(61)
        sizes = []
        for number in range(120):
            ranks = ALL_RANKS[number % 4]
            events = draw.events(ranks, draw.rng.randint(3, 9))
            menu = [draw.truth(ranks, events, moving=True) for _ in range(draw.rng.randint(0, 6))]
            chosen = [number for number in range(len(menu)) if draw.rng.random() < 0.6]
            truths = [menu[number] for number in chosen]
            if not self.can_be_heard(events, truths):
                truths = truths[:1]
            letters = list(Naive(ranks, all_heard(events, truths)).letters)
            draw.rng.shuffle(letters)
            wanted = self.naive(ranks, events, menu, letters)
            self.assertTrue(wanted)
            sizes.append(len(wanted[0]))
            self.assertEqual(explained(Course(Office(ranks), events), menu, letters), wanted)
        self.assertEqual(sorted(set(sizes))[:3], [0, 1, 2])

    def test_eight_truths(self):
        ranks = {"a": [], "b": []}
        events = {10 * number: come("p" + str(number), "ab" if number % 2 else "b") for number in range(10)}
        events.update({10 * number + 5: ("place", "ab"[number % 2]) for number in range(10)})
        menu = [("strike", 10 * number) for number in range(8)]
        letters = Naive(ranks, all_heard(events, menu)).letters
        course = Course(Office(ranks), events)
        self.assertEqual(explained(course, menu, letters), self.naive(ranks, events, menu, letters))


if __name__ == "__main__":
    unittest.main()
