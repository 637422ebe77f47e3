"""[8.5] to [8.8]: who fails, one coin more, cover, and coin by coin."""

import unittest
from itertools import product

from debts_told import GREAT, DrawDebts, Steps, ToldDebts, great_rings, small_debts
from samples import odd_objects
from seatroads.debts import Debts, greatest_payments, least_payments, left_over
from seatroads.errors import NoMember, NotFailing, NotPayments
from seatroads.failures import coin_queues, cover, cover_by, fails, hangs_on, one_coin, roots
from seatroads.queues import Queues
from seatroads.settling import in_turn, paid

EXAMPLE = Debts({}, {"a": [("b", 5)], "b": [("c", 1), ("a", 5)]})


class FailsTest(unittest.TestCase):

    def test_fails(self):
        self.assertEqual(fails(EXAMPLE, {"c": 0, "b": 0, "a": 0}), ["a", "b"])
        self.assertEqual(fails(debts=EXAMPLE.given("b", 1), payments={"a": 0, "b": 1, "c": 0}), ["a", "b"])
        self.assertEqual(fails(EXAMPLE.given("b", 1), {"a": 5, "b": 6, "c": 0}), [])
        for thing in odd_objects() + [{"a": 0, "b": 0}, {"a": 1, "b": 0, "c": 0}]:
            with self.assertRaises(NotPayments) as caught:
                fails(EXAMPLE, thing)
            self.assertIs(caught.exception.thing, thing)

    def test_against_all_payments(self):
        for told in small_debts(131, 200):
            failing = told.fails(told.most())
            for payments in told.all_payments():
                self.assertEqual(fails(told.debts, payments), told.fails(payments))
                self.assertLessEqual(set(failing), set(fails(told.debts, payments)))

    def test_roots(self):
        self.assertEqual(roots(EXAMPLE), {"b": 1})
        self.assertEqual(roots(debts=EXAMPLE.given("b", 1)), {})
        self.assertEqual(list(roots(Debts({}, {"c": [("a", 2)], "b": [("c", 1)]})).items()), [("b", 1), ("c", 1)])
        for told in small_debts(132, 200):
            full = {member: told.owed(member) for member in told.members}
            lacking = {member: full[member] - told.got(full)[member] for member in told.members}
            self.assertEqual(list(roots(told.debts).items()), [(one, many) for one, many in lacking.items() if many > 0])
            self.assertEqual(roots(told.debts) != {}, told.fails(told.most()) != [])

    def test_hangs_on(self):
        debts = Debts({}, {"a": [("b", 2)], "b": [("c", 2)], "c": [("d", 2)]})
        self.assertEqual(hangs_on(debts, "c"), ["a", "b"])
        self.assertEqual(hangs_on(debts=debts, who="a"), [])
        for thing in odd_objects() + ["z", ["a"]]:
            with self.assertRaises(NoMember) as caught:
                hangs_on(debts, thing)
            self.assertIs(caught.exception.member, thing)
        with self.assertRaises(NotFailing) as caught:
            hangs_on(debts, "d")
        self.assertEqual(caught.exception.who, "d")

    def test_hangs_on_by_trying(self):
        some = 0
        for told in small_debts(133, 200):
            failing = told.fails(told.most())
            for who in told.members:
                if who not in failing:
                    with self.assertRaises(NotFailing):
                        hangs_on(told.debts, who)
                    continue
                wanted = [other for other in told.members if other != who
                          and who not in told.with_coins({other: told.owed(other)}).fails(
                              told.with_coins({other: told.owed(other)}).most())]
                self.assertEqual(hangs_on(told.debts, who), wanted)
                some += wanted != []
        self.assertGreater(some, 30)


class OneCoinTest(unittest.TestCase):

    def test_one_coin(self):
        self.assertEqual(one_coin(EXAMPLE, "b"), ("c", {"b": 1}))
        self.assertEqual(one_coin(debts=EXAMPLE, member="c"), ("c", {}))
        self.assertEqual(one_coin(EXAMPLE, "a"), ("c", {"a": 1, "b": 1}))
        round_it_goes = Debts({}, {"a": [("b", 2)], "b": [("a", 3)]})
        self.assertEqual(one_coin(round_it_goes, "a"), ("a", {"a": 2, "b": 2}))
        self.assertEqual(one_coin(round_it_goes, "b"), ("a", {"a": 2, "b": 3}))

    def test_no_member(self):
        for thing in odd_objects() + ["z", ["a"]]:
            with self.assertRaises(NoMember) as caught:
                one_coin(EXAMPLE, thing)
            self.assertIs(caught.exception.member, thing)

    def test_step_by_step(self):
        longer = 0
        for told in small_debts(134, 300):
            for member in told.members:
                going = Steps(told.with_coins({member: 1}), told.least())
                more, at = {}, member
                while going.head(at) is not None:
                    to = going.head(at)[0]
                    more[at] = more.get(at, 0) + 1
                    going.paid[at] += 1
                    at = to
                keeper, gave = one_coin(told.debts, member)
                self.assertEqual((keeper, list(gave.items())), (at, sorted(more.items())))
                longer += max(list(more.values()) + [0]) > 1
        self.assertGreater(longer, 30)

    def test_facts(self):
        for told in small_debts(135, 200):
            for member in told.members:
                keeper, gave = one_coin(told.debts, member)
                richer = told.with_coins({member: 1})
                before, after = told.least(), richer.least()
                self.assertEqual({one: after[one] - before[one] for one in after if after[one] != before[one]}, gave)
                had = told.left(before)
                for payments in richer.all_payments():
                    has = richer.left(payments)
                    self.assertEqual({one: has[one] - had[one] for one in has if has[one] != had[one]}, {keeper: 1})

    def test_great_rings_round_which_the_coin_goes(self):
        debts = Debts({}, {"a": [("b", GREAT), ("c", 1)], "b": [("a", GREAT - 1)]})
        self.assertEqual(one_coin(debts, "a"), ("b", {"a": GREAT, "b": GREAT - 1}))
        told = great_rings()
        keeper, gave = one_coin(told.debts, "c")
        self.assertEqual(gave, {one: many for one, many in least_payments(told.debts.given("c", 1)).items() if many})
        self.assertEqual(left_over(told.debts.given("c", 1), least_payments(told.debts.given("c", 1)))[keeper], 1)


class CoverTest(unittest.TestCase):

    def test_cover(self):
        self.assertEqual([cover(EXAMPLE, "a"), cover(EXAMPLE, "b"), cover(debts=EXAMPLE, who="c")], [1, 1, 0])
        debts = Debts({}, {"a": [("b", 2)], "b": [("c", 3)]})
        self.assertEqual([cover(debts, "b"), cover_by(debts, "b", "a"), cover_by(debts.given("b", 1), "b", "a")],
                         [3, None, 2])
        self.assertEqual(cover_by(debts=debts, who="b", by="b"), 3)
        self.assertEqual([cover_by(debts, "c", "a"), cover_by(debts, "a", "c")], [0, None])

    def test_errors_in_their_order(self):
        for thing in odd_objects() + ["z", ["a"]]:
            for call in [lambda: cover(EXAMPLE, thing), lambda: cover_by(EXAMPLE, thing, "y"),
                         lambda: cover_by(EXAMPLE, "a", thing)]:
                with self.assertRaises(NoMember) as caught:
                    call()
                self.assertIs(caught.exception.member, thing)

    def test_by_trying(self):
        numbers = set()
        for told in small_debts(136, 160):
            for who in told.members:
                for by in told.members:
                    wanted = next((many for many in range(14) if who not in told_fails(told, {by: many})), None)
                    self.assertEqual(cover_by(told.debts, who, by), wanted)
                    numbers.add(wanted)
                    if by == who:
                        self.assertEqual(cover(told.debts, who), wanted)
        self.assertLessEqual({None, 0, 1, 2, 3, 4}, numbers)

    def test_in_any_shares_at_least_cover_together(self):
        for told in small_debts(137, 40):
            for who in told.members:
                least = cover(told.debts, who)
                for shares in product(range(3), repeat=len(told.members)):
                    if sum(shares) < least:
                        self.assertIn(who, told_fails(told, dict(zip(told.members, shares))))

    def test_roots_cover_all(self):
        for told in small_debts(138, 60):
            lacks = roots(told.debts)
            self.assertEqual(told_fails(told, lacks), [])
            total = sum(lacks.values())
            for shares in product(range(4), repeat=len(told.members)):
                put = {member: many for member, many in zip(told.members, shares) if many}
                if sum(shares) <= total and put != lacks:
                    self.assertNotEqual(told_fails(told, put), [])

    def test_great_numbers(self):
        told = great_rings()
        richer = told.debts.given("z", 1)
        for who in told.members:
            least = cover(richer, who)
            self.assertNotIn(who, fails(richer.given(who, least), greatest_payments(richer.given(who, least))))
            if least:
                poorer = richer.given(who, least - 1)
                self.assertIn(who, fails(poorer, greatest_payments(poorer)))
        draw = DrawDebts(139)
        some = 0
        for _ in range(30):
            told = draw.told(7, 6, GREAT).with_coins({"a": 0, "b": 0, "c": 0})
            for who, by in [("a", "b"), ("c", "a")]:
                many = cover_by(told.debts, who, by)
                if many:
                    some += 1
                    for less, failing in [(0, False), (1, True)]:
                        given = told.debts.given(by, many - less)
                        self.assertIs(who in fails(given, greatest_payments(given)), failing)
        self.assertGreater(some, 2)


class CoinQueuesTest(unittest.TestCase):

    def test_coin_queues(self):
        debts = Debts({"c": 2, "a": 0}, {"b": [("c", 1), ("a", 2)], "a": [("b", 1)]})
        queues = coin_queues(debts=debts)
        self.assertEqual(queues, Queues({"c": {"coin": 2}}, [
            [("a", "coin", 1, "b")], [("b", "coin", 1, "c")], [("b", "coin", 1, "a")], [("b", "coin", 1, "a")]]))
        self.assertEqual(coin_queues(Debts({}, {})), Queues({}, []))

    def test_paid_and_in_turn(self):
        unlike = 0
        for told in small_debts(140, 200):
            if sum(told.owed(member) for member in told.members) > 14:
                continue
            queues = coin_queues(told.debts)
            for numbers, payments in [(paid(queues), told.most()), (in_turn(queues), told.least())]:
                givers = [queues.all_items()[number][0][0] for number in numbers]
                self.assertEqual({member: givers.count(member) for member in told.members}, payments)
            unlike += told.most() != told.least()
        self.assertGreater(unlike, 40)

    def test_what_is_passed_and_returned(self):
        debts = Debts({"c": 2, "a": 0}, {"b": [("c", 1), ("a", 2)], "a": [("b", 1)]})
        payments = dict(reversed(list(greatest_payments(debts).items())))
        before = list(payments.items())
        for call in [lambda: fails(debts, payments), lambda: roots(debts), lambda: hangs_on(debts, "b")]:
            told = call()
            wanted = list(told.items()) if isinstance(told, dict) else list(told)
            told.clear()
            again = call()
            self.assertEqual(list(again.items()) if isinstance(again, dict) else again, wanted)
        one_coin(debts, "a")[1].clear()
        self.assertEqual(one_coin(debts, "a"), ("c", {"a": 1, "b": 1}))
        self.assertEqual(list(payments.items()), before)


def told_fails(told, shares):
    """Who fails in the greatest payments with more coins, by the program's payments, which other tests hold."""
    richer = told.with_coins(shares)
    return richer.fails(greatest_payments(richer.debts))


if __name__ == "__main__":
    unittest.main()
