"""[7.1]: queues."""

import unittest

from queues_told import small_queues
from samples import odd_objects
from seatroads.errors import BadHoldings, BadItem, BadName, BadNumber
from seatroads.queues import Queues

LEG = ("a", "coin", 2, "b")
BAD_LEGS = [
    ("a", "coin", 2), ("a", "coin", 2, "b", "c"), ("a", "coin", 0, "b"), ("a", "coin", -1, "b"), ("a", "coin", True, "b"),
    ("a", "coin", 2, "a"), ("A", "coin", 2, "b"), ("a", "Coin", 2, "b"), ("a", "coin", 2, "B"), ("a", "coin", None, "b"),
    (["a"], "coin", 2, "b"), ("a", ["coin"], 2, "b"), ("a", "coin", 2, ["b"]), ("a", "coin", [2], "b"), "abcd",
    ("the-till", "coin", 2, "b"), (None, None, None, None), ("", "coin", 1, "b")]


class QueuesTest(unittest.TestCase):

    def setUp(self):
        self.queues = Queues({"b": {"seat": 2, "coin": 0, "acorn": 1}, "z": {}, "a": {"coin": 7}, "y": {"coin": 0}}, [
            [LEG, ("b", "seat", 1, "a")], [], [["c", "coin", 1, "a"]], (LEG, ("a", "coin", 1, "d"))])

    def test_holdings(self):
        told = self.queues.holdings()
        self.assertEqual(told, {"a": {"coin": 7}, "b": {"acorn": 1, "seat": 2}})
        self.assertEqual([list(told), list(told["b"])], [["a", "b"], ["acorn", "seat"]])

    def test_all_items(self):
        self.assertEqual(self.queues.all_items(), [
            (LEG, ("b", "seat", 1, "a")), (), (("c", "coin", 1, "a"),), (LEG, ("a", "coin", 1, "d"))])
        self.assertEqual(len(self.queues), 4)

    def test_members_and_things(self):
        self.assertEqual(self.queues.members(), ["a", "b", "c", "d"])
        self.assertEqual(self.queues.things(), ["acorn", "coin", "seat"])
        nothing = Queues(holdings={"a": {"coin": 0}}, items=[])
        self.assertEqual([nothing.members(), nothing.things(), nothing.holdings(), nothing.all_items(), len(nothing)],
                         [[], [], {}, [], 0])
        self.assertEqual(Queues({"q": {"coin": 1}}, [[]]).members(), ["q"])

    def test_queue(self):
        queues = self.queues
        self.assertEqual(queues.queue("a", "coin"), [0, 3])
        self.assertEqual(queues.queue(member="b", thing="seat"), [0])
        self.assertEqual(queues.queue("c", "coin"), [2])
        self.assertEqual(queues.queue("b", "coin"), [])
        for thing in odd_objects() + [["a"], ("a",), "q"]:
            self.assertEqual([queues.queue(thing, "coin"), queues.queue("a", thing), queues.queue(thing, thing)],
                             [[], [], []])

    def test_against_the_words(self):
        for told in small_queues(81, 100):
            for member in "abcd":
                for thing in ("coin", "seat"):
                    self.assertEqual(told.queues.queue(member, thing), told.line(member, thing))
            self.assertEqual(told.queues.holdings(), told.after([]))
            sides = {leg[side] for item in told.items for leg in item for side in (0, 3)}
            self.assertEqual(told.queues.members(), sorted(sides | set(told.after([]))))

    def test_more(self):
        queues = self.queues
        grown = queues.more([[], [LEG]])
        self.assertEqual((len(grown), len(queues)), (6, 4))
        self.assertEqual(grown.all_items(), queues.all_items() + [(), (LEG,)])
        self.assertEqual(grown.holdings(), queues.holdings())
        self.assertEqual(queues.more(items=()), queues)
        for thing in [None, {}, "", "ab", 3, True, queues]:
            with self.assertRaises(BadItem) as caught:
                queues.more(thing)
            self.assertEqual(caught.exception.index, 4)
        for thing in BAD_LEGS:
            with self.assertRaises(BadItem) as caught:
                queues.more([[LEG], [LEG, thing], None])
            self.assertEqual(caught.exception.index, 5)

    def test_first(self):
        queues = self.queues
        self.assertEqual(queues.first(4), queues)
        self.assertEqual(queues.first(many=1).all_items(), queues.all_items()[:1])
        self.assertEqual(queues.first(0).holdings(), queues.holdings())
        self.assertEqual(len(queues.first(0)), 0)
        for thing in odd_objects() + [5, -1, "1", [1]]:
            with self.assertRaises(BadNumber) as caught:
                queues.first(thing)
            self.assertIs(caught.exception.number, thing)

    def test_given(self):
        queues = self.queues
        self.assertEqual(queues.given("b", "coin", 5).holdings()["b"], {"acorn": 1, "coin": 5, "seat": 2})
        self.assertEqual(queues.given("a", "coin", 5).holdings()["a"], {"coin": 12})
        self.assertEqual(queues.given(member="new", thing="acorn", many=1).holdings()["new"], {"acorn": 1})
        self.assertEqual(queues.given("new", "acorn", 0), queues)
        self.assertEqual(queues.given("a", "coin", 1).all_items(), queues.all_items())
        self.assertEqual(queues.holdings()["a"], {"coin": 7})
        for thing in odd_objects() + ["the-till", ["a"]]:
            with self.assertRaises(BadName) as caught:
                queues.given(thing, None, None)
            self.assertIs(caught.exception.thing, thing)
            with self.assertRaises(BadName) as caught:
                queues.given("a", thing, -1)
            self.assertIs(caught.exception.thing, thing)
        for thing in [None, -1, True, False, "1", [1], (), {}]:
            with self.assertRaises(BadNumber) as caught:
                queues.given("a", "coin", thing)
            self.assertIs(caught.exception.number, thing)

    def test_bad_holdings(self):
        for thing in [None, [], (), [("a", {})], "a", 3, True, self.queues]:
            with self.assertRaises(BadHoldings) as caught:
                Queues(thing, None)
            self.assertIs(caught.exception.thing, thing)
        for key in ["A", "", None, 1, True, ("a",), "ninesigns", "the-till"]:
            with self.assertRaises(BadHoldings) as caught:
                Queues({"z": {"coin": 1}, key: {}, "B": None}, [None])
            self.assertIs(caught.exception.thing, key)
        for held in [None, [], (), "coin", 3, {"Coin": 1}, {None: 1}, {"coin": -1}, {"coin": True}, {"coin": None},
                     {"coin": "1"}, {"coin": [1]}, {"seat": 0, "coin": {}}, {1: 1}, self.queues]:
            with self.assertRaises(BadHoldings) as caught:
                Queues({"z": {}, "b": held, "A": {}}, [None])
            self.assertEqual(caught.exception.thing, "b")

    def test_bad_items(self):
        for thing in [None, {}, "", "ab", 3, True, self.queues]:
            with self.assertRaises(BadItem) as caught:
                Queues({}, thing)
            self.assertEqual(caught.exception.index, 0)
        for thing in odd_objects() + [[leg] for leg in BAD_LEGS] + [[LEG, leg] for leg in BAD_LEGS] + [LEG, list(LEG)]:
            if thing in ([], ()):
                continue
            with self.assertRaises(BadItem) as caught:
                Queues({}, [[], [LEG], thing, None])
            self.assertEqual(caught.exception.index, 2)

    def test_equality(self):
        one = Queues({"a": {"coin": 1, "seat": 0}, "b": {}}, [[LEG], []])
        self.assertIs(one == Queues({"a": {"coin": 1}}, ((list(LEG),), ())), True)
        for other in [Queues({"a": {"coin": 2}}, [[LEG], []]), Queues({"a": {"coin": 1}}, [[LEG]]),
                      Queues({"a": {"coin": 1}}, [[], [LEG]]), Queues({"b": {"coin": 1}}, [[LEG], []])] + odd_objects():
            self.assertIs(one == other, False)
            self.assertIs(other == one, False)

    def test_what_is_passed_can_change_later(self):
        held, leg = {"coin": 1}, ["a", "coin", 2, "b"]
        holdings, item = {"a": held}, [leg]
        items = [item]
        queues = Queues(holdings, items)
        more = queues.more(items)
        self.assertEqual((holdings, items), ({"a": {"coin": 1}}, [[["a", "coin", 2, "b"]]]))
        held["coin"] = 9
        leg[2] = 7
        item.append(leg)
        items.append([])
        holdings["b"] = {"coin": 1}
        self.assertEqual(queues, Queues({"a": {"coin": 1}}, [[LEG]]))
        self.assertEqual(more, Queues({"a": {"coin": 1}}, [[LEG], [LEG]]))

    def test_what_is_returned_is_new(self):
        queues = self.queues
        wanted = [queues.holdings(), queues.all_items(), queues.members(), queues.things(), queues.queue("a", "coin")]
        queues.holdings()["a"]["coin"] = 99
        queues.holdings()["b"].clear()
        queues.holdings().clear()
        queues.all_items().clear()
        queues.members().clear()
        queues.things().clear()
        queues.queue("a", "coin").clear()
        self.assertEqual([queues.holdings(), queues.all_items(), queues.members(), queues.things(),
                          queues.queue("a", "coin")], wanted)


if __name__ == "__main__":
    unittest.main()
