"""[6.1], [6.5], [6.6]: rows, corrections, and the books of a run."""

import unittest

from ledgers_told import DrawLedgers, added, naive_books
from oracle import Naive
from samples import ALL_RANKS, Draw, odd_objects
from seatroads.courses import Course
from seatroads.entries import books_of, corrections, is_balanced, told_rows
from seatroads.errors import BadBooks, BadFee, BadRow
from seatroads.offices import Office
from seatroads.runs import run_of

BAD_ROWS = [
    ("ann", "coin"), ("ann", "coin", 1, 1), ("Ann", "coin", 1), ("the-bank", "coin", 1), ("ann", "Coin", 1),
    ("ann", "the-till", 1), ("ann", "coin", True), ("ann", "coin", None), ("ann", "coin", "1"), (None, "coin", 1),
    (["ann"], "coin", 1), ("ann", ["coin"], 1), ("ann", "coin", [1]), "ann", ("", "coin", 1), ("ann", "", 1)]


class RowsTest(unittest.TestCase):

    def test_told_rows(self):
        rows = [("bob", "coin", 3), ["ann", "seat", 1], ("ann", "coin", 2), ("the-till", "coin", -4), ("bob", "coin", -1)]
        self.assertEqual(told_rows(rows), [("ann", "coin", 2), ("ann", "seat", 1), ("bob", "coin", 2),
                                           ("the-till", "coin", -4)])
        self.assertEqual(told_rows(rows=()), [])
        self.assertEqual(told_rows([("ann", "coin", 0)]), [])
        self.assertEqual(told_rows([("x", "y", 5), ("the-pool", "y", 2), ("x", "y", -5)]), [("the-pool", "y", 2)])

    def test_great_amounts(self):
        great = 10 ** 18 - 1
        self.assertEqual(told_rows([("x", "y", great)] * 40), [("x", "y", 40 * great)])
        self.assertIs(is_balanced([("x", "y", great), ("z", "y", -great)]), True)
        self.assertIs(is_balanced([("x", "y", great), ("z", "y", 1 - great)]), False)

    def test_is_balanced(self):
        self.assertIs(is_balanced([]), True)
        self.assertIs(is_balanced(rows=()), True)
        self.assertIs(is_balanced([("x", "y", 1), ("z", "w", -1)]), False)
        self.assertIs(is_balanced([("x", "y", 1), ["x", "y", -1]]), True)
        self.assertIs(is_balanced([("x", "y", 1), ("x", "w", 5), ("z", "y", -1), ("the-till", "w", -5)]), True)
        self.assertIs(is_balanced([("x", "y", 0)]), True)

    def test_bad_rows(self):
        for call in (told_rows, is_balanced):
            for thing in BAD_ROWS + odd_objects():
                with self.assertRaises(BadRow) as caught:
                    call([("x", "y", 1), ("x", "y", 1), thing, None])
                self.assertEqual(caught.exception.index, 2)
            for thing in [None, {}, "", "ab", 3, True, {("x", "y", 1): 1}]:
                with self.assertRaises(BadRow) as caught:
                    call(thing)
                self.assertEqual(caught.exception.index, 0)

    def test_what_is_passed_stays(self):
        rows = [["x", "y", 1], ("x", "y", -1)]
        told_rows(rows).append(3)
        self.assertEqual(rows, [["x", "y", 1], ("x", "y", -1)])
        self.assertEqual(told_rows(rows), [])


class CorrectionsTest(unittest.TestCase):

    def test_corrections(self):
        one = [(3, [("ann", "coin", -2), ("bob", "coin", 2)]), (5, [("ann", "coin", 1), ("bob", "coin", -1)])]
        other = [(3, (("ann", "coin", -2), ("bob", "coin", 1), ("cleo", "coin", 1))), [4, [["a", "b", 1], ["c", "b", -1]]]]
        self.assertEqual(corrections(one, other), [
            (3, [("bob", "coin", -1), ("cleo", "coin", 1)]), (4, [("a", "b", 1), ("c", "b", -1)]),
            (5, [("ann", "coin", -1), ("bob", "coin", 1)])])
        self.assertEqual(corrections(one=[], other=other)[1], (4, [("a", "b", 1), ("c", "b", -1)]))
        self.assertEqual(corrections(one, one), [])
        self.assertEqual(corrections((), ()), [])

    def test_lead_from_the_one_to_the_other(self):
        draw = DrawLedgers(61)
        for _ in range(200):
            one, other = draw.books(), draw.books()
            found = corrections(one, other)
            times = [valid for valid, _ in found]
            self.assertEqual(times, sorted(set(times)))
            for valid, rows in found:
                self.assertEqual(rows, told_rows(rows))
                self.assertTrue(rows)
                self.assertTrue(is_balanced(rows))
            for valid in range(0, 12):
                for books, wanted in [((one, found), (other,)), ((other, corrections(other, one)), (one,))]:
                    self.assertEqual(added([rows for part in books for time, rows in part if time <= valid]),
                                     added([rows for part in wanted for time, rows in part if time <= valid]))

    def test_bad_books(self):
        good = (3, [("ann", "coin", -2), ("bob", "coin", 2)])
        fine = good[1]
        for thing in odd_objects() + [
                (3, fine), (2, fine), (10 ** 6 + 1, fine), (True, fine), (-1, fine), (None, fine), (4, []), (4, ()),
                (4, fine, None), (4,), (4, None), (4, fine[:1]), (4, fine[::-1]), (4, fine + [("cleo", "coin", 0)]),
                (4, [("ann", "coin", -1), ("ann", "coin", -1), ("bob", "coin", 2)]), (4, {}), "ab", ([4], fine),
                (4, [("ann", "coin", -2), ("bob", "seat", 2)]), (4, fine[:1] + [None])]:
            with self.assertRaises(BadBooks) as caught:
                corrections([good, thing, 7], [7])
            self.assertEqual(caught.exception.index, 1)
            with self.assertRaises(BadBooks) as caught:
                corrections([good], [(1, fine), (2, fine), (3, fine), thing])
            self.assertEqual(caught.exception.index, 3)

    def test_no_lists_of_books(self):
        good = (3, [("ann", "coin", -2), ("bob", "coin", 2)])
        for thing in [None, {}, "ab", 3, True, {3: good[1]}]:
            with self.assertRaises(BadBooks) as caught:
                corrections(thing, [good, 7])
            self.assertEqual(caught.exception.index, 0)
            with self.assertRaises(BadBooks) as caught:
                corrections([good], thing)
            self.assertEqual(caught.exception.index, 0)

    def test_the_one_ahead_of_the_other(self):
        good = (3, [("ann", "coin", -2), ("bob", "coin", 2)])
        with self.assertRaises(BadBooks) as caught:
            corrections([good, good], [None])
        self.assertEqual(caught.exception.index, 1)

    def test_what_is_passed_stays(self):
        rows = [("ann", "coin", -2), ("bob", "coin", 2)]
        one, other = [(3, rows)], [[3, list(rows)]]
        found = corrections([], one)
        found[0][1].clear()
        corrections(one, other)
        corrections(one, []).clear()
        self.assertEqual((one, other), ([(3, [("ann", "coin", -2), ("bob", "coin", 2)])],
                                        [[3, [("ann", "coin", -2), ("bob", "coin", 2)]]]))


def come(name, wishes):
    return ("come", name, wishes, 0, None)


class BooksTest(unittest.TestCase):

    def setUp(self):
        office = Office({"a": [], "b": []})
        self.course = Course(office, {
            10: ("place", "a"), 20: come("x", ["a"]), 30: come("y", ["a"]), 40: come("z", ["a", "b"]), 50: ("leave", "y"),
            60: ("change", "z", ["b"]), 65: ("leave", "q"), 70: ("place", "b"), 80: ("place", "b")})

    def test_books(self):
        self.assertEqual(books_of(run_of(self.course), (3, {"a": 5, "c": 9})), [
            (20, [("the-till", "coin", 5), ("the-till", "seat", -1), ("x", "coin", -5), ("x", "seat", 1)]),
            (30, [("the-pool", "coin", 3), ("y", "coin", -3)]),
            (40, [("the-pool", "coin", 3), ("z", "coin", -3)]),
            (50, [("the-pool", "coin", -3), ("y", "coin", 3)]),
            (70, [("the-pool", "coin", -3), ("the-till", "seat", -1), ("z", "coin", 3), ("z", "seat", 1)])])

    def test_no_deposit_and_no_fee(self):
        self.assertEqual(books_of(run=run_of(self.course), fees=[0, {}]), [
            (20, [("the-till", "seat", -1), ("x", "seat", 1)]), (70, [("the-till", "seat", -1), ("z", "seat", 1)])])

    def test_a_deposit_that_is_the_fee(self):
        course = Course(Office({"a": []}), {1: come("x", ["a"]), 2: ("place", "a")})
        self.assertEqual(books_of(run_of(course), (4, {"a": 4})), [
            (1, [("the-pool", "coin", 4), ("x", "coin", -4)]),
            (2, [("the-pool", "coin", -4), ("the-till", "coin", 4), ("the-till", "seat", -1), ("x", "seat", 1)])])

    def test_a_change_that_gets_a_place(self):
        course = Course(Office({"a": [], "b": []}), {1: ("place", "b"), 2: come("x", ["a"]), 3: ("change", "x", ["b"])})
        self.assertEqual(books_of(run_of(course), (4, {"b": 1})), [
            (2, [("the-pool", "coin", 4), ("x", "coin", -4)]),
            (3, [("the-pool", "coin", -4), ("the-till", "coin", 1), ("the-till", "seat", -1), ("x", "coin", 3),
                 ("x", "seat", 1)])])

    def test_a_round(self):
        course = Course(Office({"a": []}), {1: ("gather",), 2: come("x", ["a"]), 3: come("y", ["a"]), 4: ("place", "a"),
                                            5: ("place", "a"), 6: ("round",)})
        self.assertEqual(books_of(run_of(course), (4, {"a": 1}))[2:], [
            (6, [("the-pool", "coin", -8), ("the-till", "coin", 2), ("the-till", "seat", -2), ("x", "coin", 3),
                 ("x", "seat", 1), ("y", "coin", 3), ("y", "seat", 1)])])

    def test_against_the_events_gone_through(self):
        draw = Draw(62)
        met = 0
        for number in range(400):
            ranks = ALL_RANKS[number % len(ALL_RANKS)]
            events = draw.events(ranks, draw.rng.randint(0, 12))
            fees = (draw.rng.randint(0, 3), {kind: draw.rng.randint(0, 3) for kind in ranks if draw.rng.random() < 0.7})
            naive = Naive(ranks, events)
            self.assertEqual(books_of(run_of(Course(Office(ranks), events)), fees), naive_books(naive, fees))
            met += len(naive.rounds)
        self.assertGreater(met, 50)

    def test_great_fees(self):
        most = 10 ** 6
        course = Course(Office({"a": []}), {1: ("place", "a"), 2: come("x", ["a"])})
        self.assertEqual(books_of(run_of(course), (most, {"a": most}))[0][1][0], ("the-till", "coin", most))

    def test_bad_fees(self):
        run = run_of(self.course)
        for thing in [None, [], (), (1,), (1, {}, {}), {}, {1: 2, 3: 4}, "ab", 3, True, run]:
            with self.assertRaises(BadFee) as caught:
                books_of(run, thing)
            self.assertIs(caught.exception.thing, thing)
        for thing in [None, -1, 10 ** 6 + 1, True, False, "1", [1], (), {}, run]:
            with self.assertRaises(BadFee) as caught:
                books_of(run, (thing, None))
            self.assertIs(caught.exception.thing, thing)
            with self.assertRaises(BadFee) as caught:
                books_of(run, (0, {"c": 1, "b": thing, "A": None}))
            self.assertEqual(caught.exception.thing, "b")
        for thing in [None, [], (), [("a", 1)], "a", 5, True, run]:
            with self.assertRaises(BadFee) as caught:
                books_of(run, [0, thing])
            self.assertIs(caught.exception.thing, thing)
        for key in ["A", "", None, 1, True, ("a",), "ninesigns", "the-till"]:
            with self.assertRaises(BadFee) as caught:
                books_of(run, (0, {"c": 1, key: 1, "b": None}))
            self.assertIs(caught.exception.thing, key)

    def test_what_is_passed_stays(self):
        run = run_of(self.course)
        fees = [3, {"a": 5}]
        before = (run.letters(), run.waiting(45), run.free(85))
        found = books_of(run, fees)
        found[0][1].clear()
        found.clear()
        self.assertEqual(fees, [3, {"a": 5}])
        self.assertEqual((run.letters(), run.waiting(45), run.free(85)), before)
        self.assertEqual(len(books_of(run, fees)), 5)


if __name__ == "__main__":
    unittest.main()
