"""[9.1], [9.2]: exchanges and their rings."""

import math
import unittest

from exchanges_told import DrawExchanges, ToldExchange, small_exchanges
from samples import odd_objects
from seatroads.errors import BadFree, BadHolds, BadKind, BadRank, BadWay, BadWishes, NoPerson
from seatroads.rings import Exchange, how_many_ways, is_way, outcome, rings, way

RANKS = {"b": ["cleo", "ann", "bob"], "a": ["ann", "bob", "cleo"]}
HOLDS = {"bob": "b", "ann": "a"}
WISHES = {"cleo": ["a", "b"], "ann": ["b"], "bob": ["a"]}
SWAP = (("ann", "b"), ("bob", "a"))


def example():
    return Exchange(RANKS, HOLDS, WISHES, {})


class ExchangeTest(unittest.TestCase):

    def test_told(self):
        exchange = Exchange(RANKS, HOLDS, {"cleo": ["a", "b"]}, {"b": 2})
        self.assertEqual([exchange.people(), exchange.kinds()], [["ann", "bob", "cleo"], ["a", "b"]])
        self.assertEqual(list(exchange.ranks().items()), [("a", ("ann", "bob", "cleo")), ("b", ("cleo", "ann", "bob"))])
        self.assertEqual(list(exchange.holds().items()), [("ann", "a"), ("bob", "b")])
        self.assertEqual(list(exchange.wishes().items()), [("ann", ()), ("bob", ()), ("cleo", ("a", "b"))])
        self.assertEqual(list(exchange.free().items()), [("a", 0), ("b", 2)])
        self.assertEqual([exchange.places("a"), exchange.places(kind="b")], [1, 3])

    def test_nobody(self):
        for ranks in ({}, {"a": []}, {"b": (), "a": []}):
            exchange = Exchange(ranks=ranks, holds={}, wishes={}, free={})
            self.assertEqual([exchange.people(), exchange.kinds()], [[], sorted(ranks)])
            self.assertEqual([rings(exchange), way(exchange), how_many_ways(exchange), outcome(exchange)], [[], [], 1, {}])
            self.assertIs(is_way(exchange, ()), True)

    def test_bad_ranks(self):
        for thing in [None, [], (), "a", 3, True, example()]:
            with self.assertRaises(BadRank) as caught:
                Exchange(thing, None, None, None)
            self.assertIs(caught.exception.kind, thing)
        for key in ["A", "", None, 1, True, ("a",), "ninesigns"]:
            with self.assertRaises(BadRank) as caught:
                Exchange({"z": ["x"], key: ["x"], "b": None}, None, None, None)
            self.assertIs(caught.exception.kind, key)
        for row in [None, {}, "x", ["y"], ["x", "y"], [], ["x", "x"], ["X"], [["x"]], [None], {"x": 1}, [True]]:
            with self.assertRaises(BadRank) as caught:
                Exchange({"z": ["x"], "b": row, "A": None}, None, None, None)
            self.assertEqual(caught.exception.kind, "b")
        for row in [None, ["x", "x"], ["X"], "x", {"x": 1}]:
            with self.assertRaises(BadRank) as caught:
                Exchange({"z": row, "b": []}, None, None, None)
            self.assertEqual(caught.exception.kind, "z")

    def test_bad_holds(self):
        for thing in [None, [], (), "a", 3, True, example()]:
            with self.assertRaises(BadHolds) as caught:
                Exchange(RANKS, thing, None, None)
            self.assertIs(caught.exception.thing, thing)
        for key in ["dan", "", None, 1, True, ("ann",), "a"]:
            with self.assertRaises(BadHolds) as caught:
                Exchange(RANKS, {"ann": "a", key: "a", "bob": None}, None, None)
            self.assertIs(caught.exception.thing, key)
        for kind in ["c", None, ["a"], ("a",), True, {}, "ann"]:
            with self.assertRaises(BadHolds) as caught:
                Exchange(RANKS, {"ann": "a", "bob": kind, "dan": "a"}, None, None)
            self.assertEqual(caught.exception.thing, "bob")
        with self.assertRaises(BadHolds):
            Exchange({}, {"ann": "a"}, None, None)

    def test_bad_wishes(self):
        for thing in [None, [], (), "a", 3, True, example()]:
            with self.assertRaises(BadWishes) as caught:
                Exchange(RANKS, HOLDS, thing, None)
            self.assertIs(caught.exception.thing, thing)
        for key in ["dan", "", None, 1, True, ("ann",)]:
            with self.assertRaises(BadWishes) as caught:
                Exchange(RANKS, HOLDS, {"ann": ["b"], key: [], "bob": None}, None)
            self.assertIs(caught.exception.thing, key)
        for row in [None, "a", {}, {"a": 1}, ["c"], ["a", "a"], ["b"], ["a", "b"], [["a"]], [None], [True], ["a", 1]]:
            with self.assertRaises(BadWishes) as caught:
                Exchange(RANKS, HOLDS, {"ann": ["b"], "bob": row, "dan": []}, None)
            self.assertEqual(caught.exception.thing, "bob")

    def test_bad_free(self):
        for thing in [None, [], (), "a", 3, True, example()]:
            with self.assertRaises(BadFree) as caught:
                Exchange(RANKS, HOLDS, WISHES, thing)
            self.assertIs(caught.exception.thing, thing)
        for key in ["c", "", None, 1, True, ("a",), "ann"]:
            with self.assertRaises(BadFree) as caught:
                Exchange(RANKS, HOLDS, WISHES, {"b": 1, key: 1, "a": None})
            self.assertIs(caught.exception.thing, key)
        for many in [None, -1, True, False, "1", [1], (), {}]:
            with self.assertRaises(BadFree) as caught:
                Exchange(RANKS, HOLDS, WISHES, {"b": 1, "a": many, "c": 1})
            self.assertEqual(caught.exception.thing, "a")

    def test_places(self):
        for thing in odd_objects() + ["c", ["a"], "ann"]:
            with self.assertRaises(BadKind) as caught:
                example().places(thing)
            self.assertIs(caught.exception.kind, thing)
        for told in small_exchanges(141, 30):
            for kind in told.ranks:
                self.assertEqual(told.exchange.places(kind), told.places(kind))

    def test_with_wishes(self):
        exchange = example()
        other = exchange.with_wishes("cleo", ("b",))
        self.assertEqual(other, Exchange(RANKS, HOLDS, {"cleo": ["b"], "ann": ["b"], "bob": ["a"]}, {}))
        self.assertEqual(exchange, example())
        self.assertEqual(exchange.with_wishes(person="ann", wishes=[]).wishes()["ann"], ())
        for thing in odd_objects() + ["dan", ["ann"], "a"]:
            with self.assertRaises(NoPerson) as caught:
                exchange.with_wishes(thing, None)
            self.assertIs(caught.exception.name, thing)
        for row in [None, "b", {}, ["c"], ["b", "b"], ["a"], [["b"]], [None], True]:
            with self.assertRaises(BadWishes) as caught:
                exchange.with_wishes("ann", row)
            self.assertEqual(caught.exception.thing, "ann")
        name = "".join(["a", "nn"])
        with self.assertRaises(BadWishes) as caught:
            exchange.with_wishes(name, ["a"])
        self.assertIs(caught.exception.thing, name)

    def test_equality(self):
        exchange = example()
        self.assertIs(exchange == Exchange({"a": ("ann", "bob", "cleo"), "b": ["cleo", "ann", "bob"]}, {
            "ann": "a", "bob": "b"}, {"ann": ("b",), "bob": ("a",), "cleo": ("a", "b")}, {"a": 0}), True)
        for other in [Exchange(dict(RANKS, a=["bob", "ann", "cleo"]), HOLDS, WISHES, {}), Exchange(RANKS, {}, WISHES, {}),
                      Exchange(RANKS, HOLDS, dict(WISHES, cleo=["b", "a"]), {}), Exchange(RANKS, HOLDS, WISHES, {"a": 1}),
                      Exchange(dict(RANKS, c=RANKS["a"]), HOLDS, WISHES, {})] + odd_objects():
            self.assertIs(exchange == other, False)
            self.assertIs(other == exchange, False)

    def test_what_is_passed_can_change_later(self):
        rank, wish = ["ann", "bob"], ["b"]
        ranks, holds, wishes, free = {"a": rank, "b": ["bob", "ann"]}, {"ann": "a"}, {"ann": wish}, {"b": 1}
        exchange = Exchange(ranks, holds, wishes, free)
        self.assertEqual((ranks, holds, wishes, free), ({"a": ["ann", "bob"], "b": ["bob", "ann"]}, {"ann": "a"},
                                                        {"ann": ["b"]}, {"b": 1}))
        rank.reverse()
        wish.clear()
        ranks["c"] = []
        holds["bob"] = "b"
        wishes["bob"] = ["a"]
        free["b"] = 7
        self.assertEqual(exchange, Exchange({"a": ["ann", "bob"], "b": ["bob", "ann"]}, {"ann": "a"}, {"ann": ["b"]},
                                            {"b": 1}))

    def test_what_is_returned_is_new(self):
        exchange = example()
        for call in [exchange.people, exchange.kinds, exchange.ranks, exchange.holds, exchange.wishes, exchange.free,
                     lambda: rings(exchange), lambda: way(exchange), lambda: outcome(exchange)]:
            told = call()
            wanted = list(told.items()) if isinstance(told, dict) else list(told)
            self.assertTrue(wanted)
            told.clear()
            again = call()
            self.assertEqual(list(again.items()) if isinstance(again, dict) else again, wanted)


class RingsTest(unittest.TestCase):

    def test_rings(self):
        exchange = example()
        self.assertEqual(rings(exchange), [SWAP])
        self.assertEqual(rings(exchange=exchange, way=[SWAP]), [(("cleo", None),)])
        self.assertEqual(rings(exchange, [list(list(pair) for pair in SWAP), [["cleo", None]]]), [])
        self.assertEqual(way(exchange), [SWAP, (("cleo", None),)])
        self.assertEqual(outcome(exchange), {"ann": "b", "bob": "a", "cleo": None})
        self.assertEqual(how_many_ways(exchange), 1)

    def test_a_free_place_points_at_the_first_of_all(self):
        exchange = Exchange({"a": ["z", "y", "x"], "b": ["x", "y", "z"]}, {"x": "b"}, {"x": ["a"], "y": ["a"], "z": ["b"]},
                            {"a": 1})
        self.assertEqual(rings(exchange), [(("x", "a"), ("z", "b"))])
        self.assertEqual(way(exchange), [(("x", "a"), ("z", "b")), (("y", None),)])

    def test_who_wishes_nothing_points_at_their_own_kind(self):
        exchange = Exchange({"a": ["x", "y", "z"], "b": ["x", "y", "z"]}, {"x": "a", "y": "a", "z": "b"},
                            {"x": ["b"], "z": ["a"]}, {})
        self.assertEqual(rings(exchange), [(("x", "b"), ("z", "a"))])
        self.assertEqual(outcome(exchange), {"x": "b", "y": "a", "z": "a"})
        alone = Exchange({"a": ["x"]}, {"x": "a"}, {}, {})
        self.assertEqual(way(alone), [(("x", "a"),)])

    def test_the_ring_of_all(self):
        names = ["p" + str(number) for number in range(5)]
        kinds = ["k" + str(number) for number in range(5)]
        exchange = Exchange({kind: names for kind in kinds}, dict(zip(names, kinds)),
                            {name: [kinds[(place + 2) % 5]] for place, name in enumerate(names)}, {})
        self.assertEqual(rings(exchange), [(("p0", "k2"), ("p2", "k4"), ("p4", "k1"), ("p1", "k3"), ("p3", "k0"))])

    def test_against_a_going_of_its_own(self):
        kinds_of_rings = {}
        for told in small_exchanges(142, 200):
            for going in told.whole_ways(20):
                for number in range(len(going) + 1):
                    found = rings(told.exchange, tuple(going[:number]))
                    self.assertEqual(found, told.rings(going[:number]))
                    self.assertEqual(found, sorted(found, key=lambda ring: ring[0][0]))
                    for ring in found:
                        self.assertIsInstance(ring, tuple)
                        kinds_of_rings[len(ring), ring[0][1] is None] = True
        self.assertLessEqual({(1, True), (1, False), (2, False), (3, False), (4, False)}, set(kinds_of_rings))

    def test_bad_ways(self):
        exchange = example()
        for thing in [None, {}, "", 3, True, exchange]:
            with self.assertRaises(BadWay) as caught:
                rings(exchange, thing)
            self.assertEqual(caught.exception.index, 0)
        for thing in odd_objects() + [SWAP, SWAP[::-1], SWAP[:1], (("cleo", "a"),), (("cleo",),), "cleo", ("cleo", None),
                                      ((["cleo"], None),), (("cleo", None), None), {"cleo": None}]:
            with self.assertRaises(BadWay) as caught:
                rings(exchange, [SWAP, thing, None])
            self.assertEqual(caught.exception.index, 1)
        with self.assertRaises(BadWay) as caught:
            rings(exchange, [(("cleo", None),), SWAP])
        self.assertEqual(caught.exception.index, 0)

    def test_is_way(self):
        exchange = example()
        cleo = (("cleo", None),)
        for thing in [[SWAP, cleo], (SWAP, [["cleo", None]]), [[["ann", "b"], ("bob", "a")], cleo]]:
            self.assertIs(is_way(exchange, thing), True)
        for thing in odd_objects() + [[SWAP], [cleo, SWAP], [SWAP, cleo, cleo], [SWAP[::-1], cleo], {0: SWAP}, "ab",
                                      [SWAP, cleo, None], [None], [SWAP, "cleo"], [SWAP + cleo]]:
            self.assertIs(is_way(exchange=exchange, thing=thing), False)

    def test_near_ones_of_a_way(self):
        right = wrong = 0
        for told in small_exchanges(143, 120):
            found = way(told.exchange)
            near = [found[::-1], found[:-1], found + found[-1:]]
            for place, ring in enumerate(found):
                near.append(found[:place] + found[place + 1:])
                near.append(found[place:] + found[:place])
                near.append(found[:place] + [ring[::-1]] + found[place + 1:])
                near.append(found[:place] + [ring[1:] + ring[:1]] + found[place + 1:])
                for kind in told.ranks:
                    near.append(found[:place] + [((ring[0][0], kind),) + ring[1:]] + found[place + 1:])
            for rows in near:
                wanted = told.is_way(rows)
                self.assertIs(is_way(told.exchange, rows), wanted)
                right += wanted
                wrong += not wanted
                bad = next((number for number, ring in enumerate(rows) if ring not in told.rings(rows[:number])), None)
                if bad is not None:
                    with self.assertRaises(BadWay) as caught:
                        rings(told.exchange, rows)
                    self.assertEqual(caught.exception.index, bad)
        self.assertGreater(min(right, wrong), 100)

    def test_way(self):
        for told in small_exchanges(144, 200):
            found, wanted = way(told.exchange), []
            while told.rings(wanted):
                wanted += told.rings(wanted)
            self.assertEqual(found, wanted)
            self.assertTrue(told.is_way(found))

    def test_how_many_ways(self):
        numbers = set()
        for told in small_exchanges(145, 150, 5, 3):
            self.assertEqual(how_many_ways(told.exchange), told.count())
            numbers.add(told.count())
        self.assertLessEqual({1, 2, 3, 6, 24}, numbers)

    def test_each_whole_way_has_the_same_rings_and_outcome(self):
        for told in small_exchanges(146, 200):
            wanted = outcome(told.exchange)
            self.assertEqual(list(wanted), told.people)
            for going in told.whole_ways(60):
                self.assertIs(is_way(told.exchange, going), True)
                self.assertEqual({name: kind for ring in going for name, kind in ring}, wanted)
                self.assertEqual(sorted(going, key=lambda ring: ring[0][0]),
                                 sorted(way(told.exchange), key=lambda ring: ring[0][0]))

    def test_no_two_rings_there_have_anybody_in_common(self):
        for told in small_exchanges(147, 200):
            for going in told.whole_ways(10):
                for number in range(len(going)):
                    names = [name for ring in rings(told.exchange, going[:number]) for name, _ in ring]
                    self.assertEqual(len(names), len(set(names)))

    def test_nobody_comes_to_have_what_they_would_not_rather_have(self):
        for told in small_exchanges(148, 200):
            for name, kind in outcome(told.exchange).items():
                self.assertIn(kind, told.wishes.get(name, []) + [told.holds.get(name)])

    def test_eight_people_and_five_kinds(self):
        names = ["p" + str(number) for number in range(8)]
        kinds = ["k" + str(number) for number in range(5)]
        exchange = Exchange({kind: names for kind in kinds}, {}, {}, {})
        self.assertEqual(how_many_ways(exchange), math.factorial(8))
        draw = DrawExchanges(149)
        for _ in range(60):
            told = draw.told(8, 5)
            self.assertTrue(told.is_way(way(told.exchange)))
            self.assertGreater(how_many_ways(told.exchange), 0)

    def test_great_numbers_of_places(self):
        told = ToldExchange({"a": ["x", "y"], "b": ["y", "x"]}, {"x": "a"}, {"x": ["b"], "y": ["a", "b"]},
                            {"a": 10 ** 15, "b": 10 ** 15})
        self.assertEqual(told.exchange.places("a"), 10 ** 15 + 1)
        self.assertEqual(outcome(told.exchange), {"x": "b", "y": "a"})

    def test_what_is_passed_stays(self):
        going = [[["ann", "b"], ("bob", "a")]]
        rings(example(), going).clear()
        is_way(example(), going)
        self.assertEqual(going, [[["ann", "b"], ("bob", "a")]])


if __name__ == "__main__":
    unittest.main()
