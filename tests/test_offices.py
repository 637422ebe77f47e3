"""[2.1], [3.1], [3.2]: names, and offices."""

import unittest
from itertools import permutations

from samples import odd_objects
from seatroads.courses import Course
from seatroads.errors import BadKind, BadRank
from seatroads.offices import Office

WORDS = ["points", "few", "home", "early", "late"]


class NamesTest(unittest.TestCase):
    """Names are seen as kinds of an office."""

    def test_what_is_a_name(self):
        for name in ["a", "z", "0", "9", "ab12cd34", "00000000", "zzzzzzzz", "abcdefgh", "ijklmnop", "qrstuvwx",
                     "yz012345", "6789"]:
            self.assertEqual(Office({name: []}).kinds(), [name])

    def test_what_is_none(self):
        for name in ["", "abcdefghi", "A", "aB", "a b", " a", "a ", "a_b", "a-b", "a.", "~", "`", "{", "/", ":",
                     "\t", "\n", "a\n", None, True, False, 0, 1, 5, -1, (), ("a",), ("a", "b"), (None,)]:
            with self.assertRaises(BadRank) as caught:
                Office({name: []})
            self.assertIs(caught.exception.kind, name)


class OfficeTest(unittest.TestCase):

    def test_kinds_ascend(self):
        office = Office({"pool": ["points"], "gym": [], "bath": ["late", "home"], "0": []})
        self.assertEqual(office.kinds(), ["0", "bath", "gym", "pool"])
        self.assertEqual(office.rank("pool"), ("points",))
        self.assertEqual(office.rank("gym"), ())
        self.assertEqual(office.rank(kind="bath"), ("late", "home"))

    def test_every_list_of_unlike_words_is_a_rank(self):
        for many in range(6):
            for words in permutations(WORDS, many):
                self.assertEqual(Office({"k": list(words)}).rank("k"), words)
                self.assertEqual(Office({"k": words}).rank("k"), words)

    def test_what_is_no_rank(self):
        bad = [["points", "points"], ["few", "home", "few"], ["point"], ["Points"], [""], [None], [True], [0],
               [["points"]], [("points",)], ["points", ["few"]], "points", "", None, True, False, 0, 3, {},
               {"points": 1}, [{}], [[]], ((),), ["points", None]]
        for rank in bad + [thing for thing in odd_objects() if thing not in ([], ())]:
            with self.assertRaises(BadRank) as caught:
                Office({"ok": [], "k": rank, "": []})
            self.assertEqual(caught.exception.kind, "k")

    def test_no_dict(self):
        for ranks in odd_objects() + [[("red", [])], "red"]:
            if isinstance(ranks, dict):
                continue
            with self.assertRaises(BadRank) as caught:
                Office(ranks)
            self.assertIs(caught.exception.kind, ranks)

    def test_the_first_key_in_the_order_of_the_dict(self):
        for ranks, first in [
            ({"z": [], "y": "points", "a": None}, "y"),
            ({"b": [], "Q": [], "a": ["no"]}, "Q"),
            ({"b": ["no"], "Q": [], "a": ["no"]}, "b"),
            ({"b": [], None: [], "A": []}, None),
            ({"b": [], False: [], "a": ["no"]}, False),
            ({"a": [], ("b", 1): "points", 3: []}, ("b", 1)),
        ]:
            with self.assertRaises(BadRank) as caught:
                Office(ranks)
            self.assertEqual(caught.exception.kind, first)

    def test_the_very_key_is_kept(self):
        key = ("no", "name")
        with self.assertRaises(BadRank) as caught:
            Office({key: []})
        self.assertIs(caught.exception.kind, key)

    def test_no_kind(self):
        office = Office({"red": [], "1": []})
        for thing in odd_objects() + ["blue", "re", "redd", 1, 0, ["red"], ("red",)]:
            with self.assertRaises(BadKind) as caught:
                office.rank(thing)
            self.assertIs(caught.exception.kind, thing)

    def test_empty(self):
        office = Office({})
        self.assertEqual(office.kinds(), [])
        self.assertEqual(len(office), 0)
        self.assertNotIn("red", office)
        self.assertEqual(office, Office(ranks={}))
        with self.assertRaises(BadKind):
            office.rank("red")

    def test_len(self):
        self.assertEqual(len(Office({"a": []})), 1)
        self.assertEqual(len(Office({kind: [] for kind in "abcdef"})), 6)

    def test_in(self):
        office = Office({"red": [], "1": []})
        self.assertIs("red" in office, True)
        self.assertIs("1" in office, True)
        for thing in odd_objects() + ["blue", 1, ["red"], ("red",), {"red": 1}, {"red"}]:
            self.assertIs(thing in office, False)

    def test_equal(self):
        office = Office({"a": ["points", "late"], "b": []})
        self.assertTrue(office == Office({"b": (), "a": ("points", "late")}))
        self.assertFalse(office != Office({"b": (), "a": ("points", "late")}))
        for other in [{"a": ["points"], "b": []}, {"a": ["late", "points"], "b": []}, {"a": ["points", "late"]},
                      {"a": ["points", "late"], "c": []}, {"a": ["points", "late"], "b": [], "c": []}, {}]:
            self.assertFalse(office == Office(other))
            self.assertTrue(office != Office(other))

    def test_equal_to_nothing_else(self):
        office = Office({"a": []})
        for thing in odd_objects() + [{"a": ()}, {"a": []}, ["a"], "a", 1, Course(office, {})]:
            self.assertFalse(office == thing)
            self.assertFalse(thing == office)

    def test_what_is_passed_stays_and_may_change_later(self):
        rank = ["points", "home"]
        ranks = {"b": rank, "a": []}
        office = Office(ranks)
        self.assertEqual(ranks, {"b": ["points", "home"], "a": []})
        self.assertEqual(list(ranks), ["b", "a"])
        rank.append("late")
        ranks["c"] = []
        del ranks["a"]
        self.assertEqual(office.kinds(), ["a", "b"])
        self.assertEqual(office.rank("b"), ("points", "home"))
        self.assertEqual(office, Office({"a": [], "b": ["points", "home"]}))

    def test_what_is_returned_may_be_changed(self):
        office = Office({"b": [], "a": []})
        kinds = office.kinds()
        kinds.reverse()
        kinds.append("c")
        self.assertEqual(office.kinds(), ["a", "b"])
        self.assertNotIn("c", office)
        self.assertIsInstance(office.kinds(), list)
        self.assertIsInstance(office.rank("a"), tuple)


if __name__ == "__main__":
    unittest.main()
