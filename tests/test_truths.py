"""[4.1]: what has the form of a truth."""

import unittest

from samples import odd_objects
from seatroads.events import is_event
from seatroads.offices import Office
from seatroads.truths import is_truth

OFFICE = Office({"red": []})
PLACE = ("place", "red")
COME = ["come", "ann", ["red"], 0, None]


class TruthsTest(unittest.TestCase):

    def good(self, thing):
        self.assertIs(is_truth(OFFICE, thing), True, thing)

    def bad(self, thing):
        self.assertIs(is_truth(OFFICE, thing), False, thing)

    def test_each_form(self):
        for truth in [("put", 3, PLACE), ("strike", 3), ("alter", 3, PLACE), ("put", 3, COME), ("alter", 0, ["gather"]),
                      ("put", 10 ** 6, ("round",)), ("alter", 3, ("change", "ann", ()))]:
            self.good(truth)
            self.good(list(truth))
        self.assertIs(is_truth(office=OFFICE, thing=("strike", 3)), True)

    def test_times(self):
        for time in [0, 1, 10 ** 6 - 1, 10 ** 6]:
            self.good(("strike", time))
            self.good(("put", time, PLACE))
        for time in odd_objects() + [-1, 10 ** 6 + 1, "3", [3], True, False, None]:
            self.bad(("strike", time))
            self.bad(("put", time, PLACE))
            self.bad(("alter", time, PLACE))

    def test_lengths(self):
        for thing in [("strike",), ("strike", 3, PLACE), ("strike", 3, None), ("put", 3), ("put",), ("alter", 3),
                      ("put", 3, PLACE, None), ("alter", 3, PLACE, PLACE), (), [], ("put", 3, *PLACE)]:
            self.bad(thing)

    def test_words(self):
        for word in odd_objects() + ["Put", "place", "come", "struck", "strike "]:
            self.bad((word, 3, PLACE))
            self.bad((word, 3))

    def test_events(self):
        for event in odd_objects() + ["gather", ("place", "blue"), ("strike", 3), 3]:
            self.assertFalse(is_event(OFFICE, event))
            self.bad(("put", 3, event))
            self.bad(("alter", 3, event))

    def test_any_objects(self):
        for thing in odd_objects() + ["strike", {"strike": 3}, {0: "strike", 1: 3}, (("strike", 3),), 3, PLACE, COME]:
            self.bad(thing)

    def test_another_office(self):
        self.assertIs(is_truth(Office({}), ("put", 3, PLACE)), False)
        self.assertIs(is_truth(Office({}), ("put", 3, ("come", "ann", [], 0, None))), True)
        self.assertIs(is_truth(Office({}), ("strike", 3)), True)

    def test_what_is_passed_stays(self):
        truth = ["put", 3, ["come", "ann", ["red"], 0, None]]
        is_truth(OFFICE, truth)
        self.assertEqual(truth, ["put", 3, ["come", "ann", ["red"], 0, None]])


if __name__ == "__main__":
    unittest.main()
