"""Section 15 and README.md: their examples answer as they stand there."""

import doctest
import os
import unittest

from seatroads.courses import Course
from seatroads.offices import Office
from seatroads.runs import run_of

EXAMPLES = '''
>>> from seatroads.offices import Office
>>> from seatroads.courses import Course
>>> from seatroads.runs import run_of
>>> office = Office({"red": []})
>>> events = {1: ("place", "red"), 2: ("come", "ann", ["red"], 0, None), 3: ("come", "bob", ["red"], 0, None), 4: ("place", "red")}
>>> course = Course(office, events)
>>> run_of(course).letters()
[(2, 'ann', 'red'), (4, 'bob', 'red')]
>>> from seatroads.reach import gone_and_come
>>> from seatroads.roads import roads
>>> [(road.higher, road.steps) for road in roads(course, [("strike", 2)])]
[('old', ((2, None, ('free', 'red')), (3, ('free', 'red'), ('waits', 'bob')), (4, ('waits', 'bob'), ('free', 'red'))))]
>>> gone_and_come(course, [("strike", 2)])
([(2, 'ann', 'red'), (4, 'bob', 'red')], [(3, 'bob', 'red')])
>>> from seatroads.entries import books_of
>>> books_of(run_of(course), (3, {"red": 5}))[1:]
[(3, [('bob', 'coin', -3), ('the-pool', 'coin', 3)]), (4, [('bob', 'coin', -2), ('bob', 'seat', 1), ('the-pool', 'coin', -3), ('the-till', 'coin', 5), ('the-till', 'seat', -1)])]
>>> from seatroads.rounds import Meeting, best
>>> from seatroads.lattices import turns
>>> ranks = Office({"a": ["points"], "b": ["few"]})
>>> meeting = Meeting(ranks, [("x", ["a", "b"], 1, None), ("y", ["b", "a"], 2, None)], {"a": 1, "b": 1})
>>> [best(meeting), best(meeting, "kinds"), turns(meeting)]
[{'x': 'a', 'y': 'b'}, {'x': 'b', 'y': 'a'}, [(('x', 'a', 'b'), ('y', 'b', 'a'))]]
>>> from seatroads.queues import Queues
>>> from seatroads.settling import in_turn, paid, paper
>>> queues = Queues({"a": {"coin": 1}}, [[("a", "coin", 2, "b")], [("b", "coin", 1, "a")], [("b", "coin", 1, "c")]])
>>> [paid(queues), in_turn(queues), paid(queues.first(1)), paper(queues.first(1))]
[[0, 1, 2], [], [], [(0, ('short', 'a', 'coin'))]]
>>> from seatroads.letters import Told
>>> from seatroads.toldback import how_many_told, known_of
>>> seen = {1: ("come", "ann", 5, None), 2: ("come", "bob", 9, None), 3: ("place", "gym"), 4: ("place", "pool")}
>>> told = Told(Office({"gym": ["points"], "pool": []}), seen, [(3, "ann", "gym")])
>>> [known_of(told, 1), known_of(told, 2), how_many_told(told)]
[(('gym',), (), None, ()), ((), ('gym', 'pool'), None, ()), 3]
'''


class ExamplesTest(unittest.TestCase):

    def answer(self, text):
        """Ask all examples of a text, and tell how many have an answer there."""
        names, answered = {}, 0
        for example in doctest.DocTestParser().get_examples(text):
            if example.want:
                self.assertEqual(repr(eval(example.source, names)), example.want.rstrip("\n"))
                answered += 1
            else:
                exec(example.source, names)
        return answered

    def test_the_examples(self):
        self.assertEqual(self.answer(EXAMPLES), 7)

    def test_the_examples_of_the_readme(self):
        path = os.path.join(os.path.dirname(os.path.abspath(__file__)), "..", "README.md")
        with open(path, encoding="utf-8") as file:
            self.assertGreater(self.answer(file.read().replace("```", "")), 15)

    def test_the_round_that_is_best_for_people(self):
        ranks = Office({"a": ["points"], "b": ["few"]})
        course = Course(ranks, {1: ("gather",), 2: ("come", "x", ["a", "b"], 1, None),
                                3: ("come", "y", ["b", "a"], 2, None), 4: ("place", "a"), 5: ("place", "b"),
                                6: ("round",)})
        self.assertEqual(run_of(course).letters(), [(6, "x", "a"), (6, "y", "b")])


if __name__ == "__main__":
    unittest.main()
