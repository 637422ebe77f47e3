"""[8.1] to [8.4]: debts, payments, settlements and loose rings."""

import unittest

from debts_told import GREAT, DrawDebts, Steps, ToldDebts, great_rings, is_settlement as is_told_settlement, small_debts
from samples import odd_objects
from seatroads.debts import (
    Debts, greatest_payments, how_many_payments, is_payments, is_settlement, least_payments, left_over, loose_rings,
    settlement)
from seatroads.errors import BadCoins, BadDebts, BadName, BadNumber, NoMember, NotPayments

ROWS = {"b": [("c", 1), ("a", 5)], "a": [("b", 5)]}


def example():
    """What [8.6] tells of: nobody pays in the least ones, and with one coin more much is paid."""
    return Debts({}, ROWS)


class DebtsTest(unittest.TestCase):

    def setUp(self):
        self.debts = Debts({"d": 0, "b": 3}, {"b": [["c", 2], ("a", 1), ("c", 4)], "a": (("b", 10),), "e": []})

    def test_told(self):
        debts = self.debts
        self.assertEqual(debts.members(), ["a", "b", "c", "d", "e"])
        self.assertEqual(list(debts.coins().items()), [("a", 0), ("b", 3), ("c", 0), ("d", 0), ("e", 0)])
        self.assertEqual(list(debts.debts().items()), [
            ("a", [("b", 10)]), ("b", [("c", 2), ("a", 1), ("c", 4)]), ("c", []), ("d", []), ("e", [])])
        nobody = Debts(coins={}, debts={})
        self.assertEqual([nobody.members(), nobody.coins(), nobody.debts()], [[], {}, {}])

    def test_owed_and_split(self):
        debts = self.debts
        self.assertEqual([debts.owed("b"), debts.owed(member="a"), debts.owed("c")], [7, 10, 0])
        for many, wanted in [(0, [0, 0, 0]), (1, [1, 0, 0]), (2, [2, 0, 0]), (3, [2, 1, 0]), (5, [2, 1, 2]),
                             (7, [2, 1, 4])]:
            self.assertEqual(debts.split("b", many), wanted)
        self.assertEqual(debts.split(member="c", many=0), [])

    def test_owed_and_split_errors(self):
        for thing in odd_objects() + ["z", ["a"], ("a",)]:
            for call in [lambda: self.debts.owed(thing), lambda: self.debts.split(thing, None)]:
                with self.assertRaises(NoMember) as caught:
                    call()
                self.assertIs(caught.exception.member, thing)
        for thing in odd_objects() + [8, -1, "1", [1]]:
            with self.assertRaises(BadNumber) as caught:
                self.debts.split("b", thing)
            self.assertIs(caught.exception.number, thing)
        with self.assertRaises(BadNumber):
            self.debts.split("c", 1)

    def test_given(self):
        debts = self.debts
        self.assertEqual(debts.given("b", 4), Debts({"b": 7, "d": 0, "e": 0}, debts.debts()))
        self.assertEqual(debts.given(member="new", many=0).members(), ["a", "b", "c", "d", "e", "new"])
        self.assertEqual(debts.given("new", 2).coins()["new"], 2)
        self.assertEqual(debts.given("a", 0), debts)
        for thing in odd_objects() + ["the-till", ["a"]]:
            with self.assertRaises(BadName) as caught:
                debts.given(thing, None)
            self.assertIs(caught.exception.thing, thing)
        for thing in [None, -1, True, False, "1", [1], (), {}]:
            with self.assertRaises(BadNumber) as caught:
                debts.given("a", thing)
            self.assertIs(caught.exception.number, thing)

    def test_bad_coins(self):
        for thing in [None, [], (), [("a", 1)], "a", 3, True, self.debts]:
            with self.assertRaises(BadCoins) as caught:
                Debts(thing, None)
            self.assertIs(caught.exception.thing, thing)
        for key in ["A", "", None, 1, True, ("a",), "ninesigns", "the-till"]:
            with self.assertRaises(BadCoins) as caught:
                Debts({"z": 1, key: 1, "b": -1}, None)
            self.assertIs(caught.exception.thing, key)
        for many in [None, -1, True, False, "1", [1], (), {}, self.debts]:
            with self.assertRaises(BadCoins) as caught:
                Debts({"z": 1, "b": many, "A": 1}, None)
            self.assertEqual(caught.exception.thing, "b")

    def test_bad_debts(self):
        for thing in [None, [], (), [("a", [])], "a", 3, True, self.debts]:
            with self.assertRaises(BadDebts) as caught:
                Debts({}, thing)
            self.assertIs(caught.exception.thing, thing)
        for key in ["A", "", None, 1, True, ("a",), "ninesigns", "the-till"]:
            with self.assertRaises(BadDebts) as caught:
                Debts({}, {"z": [], key: [], "b": None})
            self.assertIs(caught.exception.thing, key)
        for row in [None, {}, "ab", 3, [None], [("a",)], [("a", 1, 1)], [("a", 0)], [("a", -1)], [("a", True)], [("A", 1)],
                    [("a", None)], [("a", "1")], [("b", 1)], [("a", 1), ("b", 1)], [(["a"], 1)], ("a", 1), [{}], ["a1"],
                    [(None, 1)], self.debts]:
            with self.assertRaises(BadDebts) as caught:
                Debts({"a": 1}, {"z": [("a", 1)], "b": row, "A": []})
            self.assertEqual(caught.exception.thing, "b")

    def test_equality(self):
        debts = Debts({"a": 1}, {"b": [("c", 1), ("a", 5)]})
        self.assertIs(debts == Debts({"c": 0, "a": 1}, {"a": [], "b": (["c", 1], ["a", 5])}), True)
        for other in [Debts({"a": 2}, {"b": [("c", 1), ("a", 5)]}), Debts({"a": 1}, {"b": [("a", 5), ("c", 1)]}),
                      Debts({"a": 1, "d": 0}, {"b": [("c", 1), ("a", 5)]}), Debts({"a": 1}, {"b": [("c", 1)]}),
                      Debts({"a": 1}, {"b": [("c", 1), ("a", 2), ("a", 3)]})] + odd_objects():
            self.assertIs(debts == other, False)
            self.assertIs(other == debts, False)

    def test_what_is_passed_can_change_later(self):
        row, coins = [["c", 2]], {"b": 3}
        rows = {"b": row}
        debts = Debts(coins, rows)
        self.assertEqual((coins, rows), ({"b": 3}, {"b": [["c", 2]]}))
        row[0][1] = 9
        row.append(("a", 1))
        coins["z"] = 4
        rows["c"] = [("a", 1)]
        self.assertEqual(debts, Debts({"b": 3}, {"b": [("c", 2)]}))

    def test_what_is_returned_is_new(self):
        debts = example()
        for call in [debts.members, debts.coins, debts.debts, lambda: debts.split("b", 3),
                     lambda: greatest_payments(debts), lambda: least_payments(debts), lambda: settlement(debts.given("a", 1)),
                     lambda: left_over(debts, {"a": 0, "b": 0, "c": 0}), lambda: loose_rings(Debts({}, {
                         "a": [("b", 2)], "b": [("a", 1)]}))]:
            told = call()
            wanted = list(told.items()) if isinstance(told, dict) else list(told)
            self.assertTrue(wanted)
            told.clear()
            again = call()
            self.assertEqual(list(again.items()) if isinstance(again, dict) else again, wanted)
        debts.debts()["b"].clear()
        self.assertEqual(debts, Debts({}, ROWS))


class PaymentsTest(unittest.TestCase):

    def test_example(self):
        debts = example()
        self.assertEqual([greatest_payments(debts), least_payments(debts)], [{"a": 0, "b": 0, "c": 0}] * 2)
        richer = debts.given("b", 1)
        self.assertEqual(least_payments(debts=richer), {"a": 0, "b": 1, "c": 0})
        self.assertEqual(greatest_payments(debts=richer), {"a": 5, "b": 6, "c": 0})

    def test_against_all_payments(self):
        unlike = 0
        for told in small_debts(111, 400):
            for given, wanted in [(greatest_payments(told.debts), told.most()), (least_payments(told.debts), told.least())]:
                self.assertEqual(list(given.items()), list(wanted.items()))
            unlike += told.most() != told.least()
        self.assertGreater(unlike, 100)

    def test_is_payments(self):
        for told in small_debts(112, 60):
            found = told.all_payments()
            self.assertTrue(all(is_payments(told.debts, dict(reversed(list(one.items())))) is True for one in found))
            for member in told.members:
                for one in found:
                    for more in (-1, 1, 2):
                        near = dict(one)
                        near[member] += more
                        self.assertIs(is_payments(debts=told.debts, thing=near), near in found)

    def test_no_payments(self):
        debts = Debts({"a": 1}, {"a": [("b", 1)], "b": [("a", 2)]})
        self.assertIs(is_payments(debts, {"b": 2, "a": 1}), False)
        self.assertIs(is_payments(debts, {"b": 1, "a": 1}), True)
        for thing in odd_objects() + [
                {"a": 1}, {"a": 1, "b": 1, "c": 0}, {"a": True, "b": 1}, {"a": 1, "b": None}, {"a": 1, "b": [1]},
                {"a": 0, "b": 0}, {"a": 1, "b": -1}, {"a": 1, "c": 1}, [("a", 1), ("b", 1)], {"a": 2, "b": 1},
                {"a": 1, "b": 10 ** 30}, {"a": -1, "b": 1}, {"a": 1, "b": "1"}, {"a": 1, ("b",): 1}]:
            self.assertIs(is_payments(debts, thing), False, thing)
            with self.assertRaises(NotPayments) as caught:
                left_over(debts, thing)
            self.assertIs(caught.exception.thing, thing)

    def test_no_members_have_empty_payments(self):
        self.assertIs(is_payments(Debts({}, {}), {}), True)
        self.assertEqual([greatest_payments(Debts({}, {})), left_over(Debts({}, {}), {}), settlement(Debts({}, {})),
                          how_many_payments(Debts({}, {}))], [{}, {}, [], 1])

    def test_left_over(self):
        self.assertEqual(left_over(example().given("b", 1), {"a": 0, "b": 1, "c": 0}), {"a": 0, "b": 0, "c": 1})
        payments = {"b": 0, "c": 0, "a": 0}
        self.assertEqual(list(left_over(debts=example(), payments=payments)), ["a", "b", "c"])
        self.assertEqual(list(payments), ["b", "c", "a"])

    def test_left_over_is_the_same_for_all_payments(self):
        for told in small_debts(113, 200):
            wanted = told.left(told.least())
            for payments in told.all_payments():
                self.assertEqual(list(left_over(told.debts, payments).items()), list(wanted.items()))
                self.assertEqual(told.left(payments), wanted)


class SettlementTest(unittest.TestCase):

    def test_told_ones(self):
        for told in small_debts(114, 300):
            for by_coins, wanted in [(False, told.most()), (True, told.least())]:
                steps = settlement(told.debts, by_coins)
                self.assertTrue(is_told_settlement(told, steps, by_coins), steps)
                self.assertIs(is_settlement(told.debts, steps, by_coins), True)
                self.assertEqual(paid_by(told, steps), wanted)
        self.assertEqual(settlement(debts=example(), by_coins=False), settlement(example()))

    def test_drawn_ones(self):
        draw = DrawDebts(115)
        rings = 0
        for told in small_debts(116, 300):
            for by_coins, wanted in [(False, told.most()), (True, told.least())]:
                steps, behind = draw.settlement(told, by_coins)
                self.assertEqual(behind, wanted)
                self.assertIs(is_settlement(debts=told.debts, thing=steps, by_coins=by_coins), True)
                self.assertIs(is_settlement(told.debts, tuple(list(step) for step in steps), by_coins), True)
                at_hand = {member: Steps(told, behind).hand(member) for member in told.members}
                self.assertEqual(at_hand, left_over(told.debts, behind))
                rings += by_coins and any(step[0] == "ring" for step in steps)
        self.assertGreater(rings, 10)

    def test_cut_and_bent_ones(self):
        draw = DrawDebts(117)
        right = wrong = 0
        for told in small_debts(118, 120):
            for by_coins in (False, True):
                steps, _ = draw.settlement(told, by_coins)
                bent = [steps[:-1], steps[::-1], steps + steps[-1:], steps[1:] + steps[:1]]
                for place, (word, who, many) in enumerate(steps):
                    others = [(word, who, many + 1), (word, who, many - 1), (word, who, 0), ("pay", "a", 1),
                              ("ring", ("a", "b"), 1)]
                    if word == "ring":
                        others += [(word, who[::-1], many), (word, who[1:] + who[:1], many), (word, who[:1], many)]
                    bent += [steps[:place] + [other] + steps[place + 1:] for other in others]
                    bent.append(steps[:place] + steps[place + 1:])
                for changed in bent:
                    for coins in (False, True):
                        wanted = is_told_settlement(told, changed, coins)
                        self.assertIs(is_settlement(told.debts, changed, coins), wanted, changed)
                        right += wanted
                        wrong += not wanted
        self.assertGreater(min(right, wrong), 100)

    def test_any_objects(self):
        debts = Debts({"a": 2}, {"a": [("b", 1)], "b": [("a", 1)], "c": [("d", 3)], "d": [("c", 3)]})
        ring, other = ("ring", ("a", "b"), 1), ("ring", ("c", "d"), 3)
        pays = [("pay", "a", 1), ("pay", "b", 1)]
        for thing in [[ring, other], (list(other), ["ring", ["a", "b"], 1]), pays + [other],
                      [("ring", ("c", "d"), 1), other[:2] + (2,), ring]]:
            self.assertIs(is_settlement(debts, thing), True)
        for thing in [[ring], pays, (list(ring),)]:
            self.assertIs(is_settlement(debts, thing, True), True)
            self.assertIs(is_settlement(debts, thing), False)
        for thing in odd_objects() + [
                [ring, other, None], [("ring", ("b", "a"), 1), other], [("ring", "ab", 1), other], [("ring", ("a", "b"), True)],
                [("pay", "a", True), ("pay", "b", 1)], [("pay", ["a"], 1)], [("pay", "a")], [("pay", "a", 1, 1)], [ring[:2]],
                [("ring", ("a", "b", "a", "b"), 1)], [("ring", {"a": 1}, 1)], [("ring", None, 1)], [("give", "a", 1)],
                [([], "a", 1)], [("pay", "z", 1)], [("pay", None, 1)], {0: ring}, "ring", [("ring", (), 1)], [("pay", "a", "1")],
                [("ring", (["a"], "b"), 1)], [ring, ring], [(None, None, None)], [("pay", "c", 1)], [("ring", ("a",), 1)]]:
            for by_coins in (False, True):
                self.assertIs(is_settlement(debts, thing, by_coins), False, thing)
        self.assertIs(is_settlement(debts, [other, ring], True), False)
        for many in (0, -1):
            for step in [("pay", "a", many), ("ring", ("a", "b"), many), ("pay", "b", many)]:
                self.assertIs(is_settlement(debts, [step, ring, other]), False)
                self.assertIs(is_settlement(debts, [ring, other, step]), False)
                self.assertIs(is_settlement(debts, [step, ring], True), False)
        for word in ("give", None, 1, "rings", ["ring"]):
            self.assertIs(is_settlement(debts, [(word, ("a", "b"), 1), other]), False)
            self.assertIs(is_settlement(debts, [(word, "a", 1), ("pay", "b", 1), other]), False)

    def test_longer_names(self):
        debts = Debts({"ann": 3}, {"ann": [("bob", 2), ("cleo", 2)], "bob": [("cleo", 1)], "cleo": [("dan", 9)]})
        steps = settlement(debts)
        self.assertIs(is_settlement(debts, steps), True)
        self.assertEqual(sorted(steps), [("pay", "ann", 1), ("pay", "ann", 2), ("pay", "bob", 1), ("pay", "cleo", 2)])
        self.assertEqual(least_payments(debts), {"ann": 3, "bob": 1, "cleo": 2, "dan": 0})
        ring = Debts({}, {"ann": [("bob", 2)], "bob": [("ann", 2)]})
        self.assertEqual(settlement(ring), [("ring", ("ann", "bob"), 2)])
        self.assertEqual(settlement(ring, True), [])
        self.assertEqual(loose_rings(ring), [(("ann", "bob"), 2)])

    def test_each_pays_once_along_a_row(self):
        """What keeps settlements short: who gets nothing more pays first."""
        names = "gabcdef"
        debts = Debts({name: 1 for name in names}, {name: [(names[place + 1], 99)] for place, name in enumerate(names[:6])})
        self.assertEqual(settlement(debts), [("pay", name, place + 1) for place, name in enumerate(names[:6])])

    def test_a_coin_that_comes_to_a_ring(self):
        debts = Debts({"z": 1}, {"z": [("b", 1)], "a": [("b", GREAT)], "b": [("a", GREAT)]})
        for by_coins in (False, True):
            steps = settlement(debts, by_coins)
            self.assertLess(len(steps), 10)
            self.assertIs(is_settlement(debts, steps, by_coins), True)
        self.assertEqual(least_payments(debts), {"a": GREAT, "b": GREAT, "z": 1})
        self.assertEqual(least_payments(debts.given("c", 1)), {"a": GREAT, "b": GREAT, "c": 0, "z": 1})

    def test_any_number_of_steps(self):
        debts = Debts({"a": 1}, {"a": [("b", 900)], "b": [("a", 900)]})
        steps = [("pay", "a", 1), ("pay", "b", 1)] * 900
        self.assertIs(is_settlement(debts, steps, True), True)
        self.assertIs(is_settlement(debts, steps[:-1], True), False)
        self.assertIs(is_settlement(debts, steps + steps[:1]), False)

    def test_great_ones_have_at_most_1000_steps(self):
        draw = DrawDebts(119)
        ones = [great_rings(), great_rings().with_coins({"a": 1}), great_rings().with_coins({"c": GREAT, "d": 5})]
        ones += [draw.told(7, 6, GREAT) for _ in range(60)]
        ones += [draw.told(7, 6, 5).with_coins({"a": GREAT // 3}) for _ in range(20)]
        for told in ones:
            for by_coins in (False, True):
                steps = settlement(told.debts, by_coins)
                self.assertLessEqual(len(steps), 1000)
                self.assertIs(is_settlement(told.debts, steps, by_coins), True)
                self.assertTrue(is_told_settlement(told, steps, by_coins))

    def test_great_rings(self):
        told = great_rings()
        self.assertEqual(set(least_payments(told.debts).values()), {0})
        self.assertGreater(min(greatest_payments(told.debts).values()), GREAT)
        self.assertGreater(how_many_payments(told.debts), GREAT)


class LooseRingsTest(unittest.TestCase):

    def test_loose_rings(self):
        debts = Debts({}, {"a": [("b", 2)], "b": [("a", 5)], "d": [("c", 4), ("e", 1)], "c": [("d", 3)], "e": [("d", 1)]})
        self.assertEqual(loose_rings(debts), [(("a", "b"), 2), (("c", "d"), 3)])
        self.assertEqual(how_many_payments(debts=debts), 12)
        self.assertEqual([loose_rings(debts=example()), how_many_payments(example())], [[], 1])

    def test_by_the_words(self):
        found = {}
        for told in small_debts(121, 400):
            going, wanted = Steps(told, told.least()), []
            while going.rings():
                ring = min(going.rings())
                wanted.append(ring)
                going.do(("ring",) + ring)
            self.assertEqual(loose_rings(told.debts), wanted)
            self.assertEqual(going.paid, told.most())
            self.assertEqual(Steps(told, told.least()).pays(), [])
            found[len(wanted)] = True
        self.assertLessEqual({0, 1, 2, 3}, set(found))

    def test_in_other_orders(self):
        draw = DrawDebts(122)
        for told in small_debts(123, 200):
            wanted = sorted(loose_rings(told.debts))
            for _ in range(3):
                going, rings = Steps(told, told.least()), []
                while going.rings():
                    there = going.rings()
                    names = [name for members, _ in there for name in members]
                    self.assertEqual(len(names), len(set(names)))
                    rings.append(draw.rng.choice(there))
                    going.do(("ring",) + rings[-1])
                self.assertEqual(sorted(rings), wanted)

    def test_how_many_payments(self):
        numbers = set()
        for told in small_debts(124, 500):
            found = told.all_payments()
            self.assertEqual(how_many_payments(told.debts), len(found))
            numbers.add(len(found))
        self.assertLessEqual({1, 2, 3, 4, 5, 6, 7}, numbers)

    def test_all_payments_are_behind_rings_perhaps_in_part(self):
        for told in small_debts(125, 200):
            found, ahead = [], [told.least()]
            while ahead:
                payments = ahead.pop()
                if payments in found:
                    continue
                found.append(payments)
                for members, _ in Steps(told, payments).rings():
                    ahead.append({member: many + (member in members) for member, many in payments.items()})
            self.assertEqual(sorted(tuple(one.values()) for one in found),
                             sorted(tuple(one.values()) for one in told.all_payments()))

    def test_great_numbers(self):
        debts = Debts({}, {"a": [("b", GREAT), ("c", 3)], "b": [("a", GREAT)], "c": [("a", 2)],
                           "d": [("e", GREAT)], "e": [("d", 7)]})
        self.assertEqual(loose_rings(debts), [(("a", "b"), GREAT), (("a", "c"), 2), (("d", "e"), 7)])
        self.assertEqual(how_many_payments(debts), (GREAT + 3) * 8)


def paid_by(told, steps):
    going = Steps(told)
    for step in steps:
        going.do(step)
    return going.paid


if __name__ == "__main__":
    unittest.main()
