"""[3.1], [3.3]: events, with the names, points and kinds in them."""

import unittest

from samples import odd_objects
from seatroads.events import is_event
from seatroads.offices import Office

OFFICE = Office({"red": [], "blue": ["home"]})
GOOD = [
    ("come", "ann", ["red", "blue"], 5, "red"),
    ("place", "blue"),
    ("leave", "ann"),
    ("withdraw", "red"),
    ("change", "ann", ["blue"]),
    ("gather",),
    ("round",),
]


def with_part(event, place, part):
    """The event with another part at a place."""
    return tuple(event[:place]) + (part,) + tuple(event[place + 1:])


class EventsTest(unittest.TestCase):

    def good(self, thing):
        self.assertIs(is_event(OFFICE, thing), True, thing)

    def bad(self, thing):
        self.assertIs(is_event(OFFICE, thing), False, thing)

    def test_each_form(self):
        for event in GOOD:
            self.good(event)
            self.good(list(event))
        self.assertIs(is_event(office=OFFICE, thing=("gather",)), True)

    def test_tuples_and_lists_mean_the_same_within(self):
        self.good(["come", "ann", ("red", "blue"), 5, "red"])
        self.good(("change", "ann", ("blue",)))
        self.good(["change", "ann", ["blue", "red"]])

    def test_too_short_and_too_long(self):
        for event in GOOD:
            self.bad(event[:-1])
            self.bad(event + (None,))
            self.bad(event + ("red",))
            self.bad(event + ([],))
        self.bad(("come", "ann", ["red"], 5))
        self.bad(("change", "ann"))

    def test_words(self):
        for event in GOOD:
            for word in odd_objects() + ["Come", "com", "comes", "put", "strike", "red", event[0] + " "]:
                self.bad(with_part(event, 0, word))

    def test_other_words_with_the_form_of_another(self):
        self.bad(("place", "ann"))
        self.bad(("withdraw", "ann"))
        self.bad(("gather", "red"))
        self.bad(("round", "ann"))
        self.bad(("come",))
        self.bad(("leave",))
        self.bad(("place",))

    def test_names(self):
        for place, event in [(1, GOOD[0]), (1, GOOD[2]), (1, GOOD[4])]:
            for name in ["a", "0", "abcdefgh", "12345678", "red", "come"]:
                self.good(with_part(event, place, name))
            for name in odd_objects() + ["abcdefghi", "Ann", "an n", "an-n", ["ann"], ("ann",), 7, 0]:
                self.bad(with_part(event, place, name))

    def test_wishes(self):
        for place, event in [(2, GOOD[0]), (2, GOOD[4])]:
            for wishes in [[], (), ["red"], ("blue",), ["red", "blue"], ("blue", "red")]:
                self.good(with_part(event, place, wishes))
            strange = [thing for thing in odd_objects() if thing not in ([], ())]
            for wishes in strange + ["red", "", None, ["red", "red"], ("red", "blue", "red"), ["green"], [None],
                                     [["red"]], [("red",)], {"red": 1}, ["red", None], [True], [0], True, False]:
                self.bad(with_part(event, place, wishes))

    def test_points(self):
        for points in [0, 1, 5, 10 ** 6 - 1, 10 ** 6]:
            self.good(with_part(GOOD[0], 3, points))
        for points in odd_objects() + [-1, 10 ** 6 + 1, True, False, None, "5", [5], "red"]:
            self.bad(with_part(GOOD[0], 3, points))

    def test_homes(self):
        for home in [None, "red", "blue"]:
            self.good(with_part(GOOD[0], 4, home))
        for home in [thing for thing in odd_objects() if thing is not None] + ["green", ["red"], ("red",), 0, False]:
            self.bad(with_part(GOOD[0], 4, home))

    def test_kinds(self):
        for event in [GOOD[1], GOOD[3]]:
            for kind in ["red", "blue"]:
                self.good(with_part(event, 1, kind))
            for kind in odd_objects() + ["green", "re", ["red"], ("red",), None]:
                self.bad(with_part(event, 1, kind))

    def test_any_objects(self):
        for thing in odd_objects() + ["come", "gather", "round", {"gather": 1}, {0: "gather"}, 5, "place red",
                                      (("gather",),), [["round"]]]:
            self.bad(thing)

    def test_an_office_without_kinds(self):
        office = Office({})
        self.assertIs(is_event(office, ("come", "ann", [], 0, None)), True)
        self.assertIs(is_event(office, ("change", "ann", ())), True)
        self.assertIs(is_event(office, ("gather",)), True)
        self.assertIs(is_event(office, ("come", "ann", ["red"], 0, None)), False)
        self.assertIs(is_event(office, ("come", "ann", [], 0, "red")), False)
        self.assertIs(is_event(office, ("place", "red")), False)

    def test_what_is_passed_stays(self):
        event = ["come", "ann", ["red", "blue"], 5, None]
        is_event(OFFICE, event)
        self.assertEqual(event, ["come", "ann", ["red", "blue"], 5, None])


if __name__ == "__main__":
    unittest.main()
