"""Section 15: the examples that the modules so far can answer."""

import unittest

from seatroads.courses import Course
from seatroads.entries import books_of
from seatroads.lattices import turns
from seatroads.offices import Office
from seatroads.queues import Queues
from seatroads.reach import gone_and_come
from seatroads.roads import roads
from seatroads.rounds import Meeting, best
from seatroads.runs import run_of
from seatroads.settling import in_turn, paid, paper


class ExamplesTest(unittest.TestCase):

    def setUp(self):
        office = Office({"red": []})
        events = {1: ("place", "red"), 2: ("come", "ann", ["red"], 0, None), 3: ("come", "bob", ["red"], 0, None),
                  4: ("place", "red")}
        self.course = Course(office, events)

    def test_letters(self):
        self.assertEqual(run_of(self.course).letters(), [(2, "ann", "red"), (4, "bob", "red")])

    def test_roads(self):
        self.assertEqual([(road.higher, road.steps) for road in roads(self.course, [("strike", 2)])], [
            ("old", ((2, None, ("free", "red")), (3, ("free", "red"), ("waits", "bob")),
                     (4, ("waits", "bob"), ("free", "red"))))])

    def test_gone_and_come(self):
        self.assertEqual(gone_and_come(self.course, [("strike", 2)]), (
            [(2, "ann", "red"), (4, "bob", "red")], [(3, "bob", "red")]))

    def test_books(self):
        self.assertEqual(books_of(run_of(self.course), (3, {"red": 5}))[1:], [
            (3, [("bob", "coin", -3), ("the-pool", "coin", 3)]),
            (4, [("bob", "coin", -2), ("bob", "seat", 1), ("the-pool", "coin", -3), ("the-till", "coin", 5),
                 ("the-till", "seat", -1)])])

    def test_rounds(self):
        ranks = Office({"a": ["points"], "b": ["few"]})
        meeting = Meeting(ranks, [("x", ["a", "b"], 1, None), ("y", ["b", "a"], 2, None)], {"a": 1, "b": 1})
        self.assertEqual([best(meeting), best(meeting, "kinds"), turns(meeting)], [
            {"x": "a", "y": "b"}, {"x": "b", "y": "a"}, [(("x", "a", "b"), ("y", "b", "a"))]])

    def test_queues(self):
        queues = Queues({"a": {"coin": 1}}, [[("a", "coin", 2, "b")], [("b", "coin", 1, "a")], [("b", "coin", 1, "c")]])
        self.assertEqual([paid(queues), in_turn(queues), paid(queues.first(1)), paper(queues.first(1))],
                         [[0, 1, 2], [], [], [(0, ("short", "a", "coin"))]])

    def test_the_round_that_is_best_for_people(self):
        ranks = Office({"a": ["points"], "b": ["few"]})
        course = Course(ranks, {1: ("gather",), 2: ("come", "x", ["a", "b"], 1, None),
                                3: ("come", "y", ["b", "a"], 2, None), 4: ("place", "a"), 5: ("place", "b"),
                                6: ("round",)})
        self.assertEqual(run_of(course).letters(), [(6, "x", "a"), (6, "y", "b")])


if __name__ == "__main__":
    unittest.main()
