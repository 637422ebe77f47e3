"""[7.2] to [7.5]: which items are paid, why others wait, and what frees them."""

import unittest
from itertools import combinations, permutations, product

from queues_told import GREAT, DrawQueues, ToldQueues, ring_of, row_of, small_queues
from samples import odd_objects
from seatroads.errors import BadName, BadNumber, NotFeasible
from seatroads.queues import Queues
from seatroads.settling import (
    bundles, freed_by, holdings_after, in_turn, is_feasible, is_paper, least_freed, paid, paper)

RING = Queues({}, ring_of(["a", "b", "c"], 5))


def example():
    return Queues({"a": {"coin": 1}}, [[("a", "coin", 2, "b")], [("b", "coin", 1, "a")], [("b", "coin", 1, "c")]])


class FeasibleTest(unittest.TestCase):

    def test_against_all_sets(self):
        for told in small_queues(91, 150):
            for many in range(len(told.items) + 1):
                for chosen in combinations(range(len(told.items)), many):
                    wanted = told.is_feasible(chosen)
                    self.assertIs(is_feasible(told.queues, chosen), wanted)
                    self.assertIs(is_feasible(queues=told.queues, thing=list(chosen[::-1])), wanted)

    def test_no_lists_of_numbers(self):
        queues = Queues({"a": {"coin": 9}}, [[("a", "coin", 1, "b")], []])
        for thing in [[], (), [0], [1], [1, 0], (0, 1)]:
            self.assertIs(is_feasible(queues, thing), True)
        for thing in odd_objects() + [[0, 0], [2], [-1], [True], [False], ["0"], [[0]], [None], 0, "0", {0: 0}, {},
                                      [1, 1.5], [(0,)]]:
            if thing in ([], ()):
                continue
            self.assertIs(is_feasible(queues, thing), False)
            for call in (holdings_after, bundles):
                with self.assertRaises(NotFeasible) as caught:
                    call(queues, thing)
                self.assertIs(caught.exception.numbers, thing)

    def test_sets_that_are_not_feasible(self):
        for numbers in ([1], [0], [2], [0, 2], (2, 0)):
            self.assertIs(is_feasible(example(), numbers), False)
            with self.assertRaises(NotFeasible) as caught:
                holdings_after(example(), numbers)
            self.assertIs(caught.exception.numbers, numbers)
            with self.assertRaises(NotFeasible):
                bundles(example(), numbers)

    def test_two_feasible_sets_are_feasible_together(self):
        for told in small_queues(92, 60):
            found = told.feasible_sets()
            for one, other in product(found, found):
                self.assertIs(is_feasible(told.queues, sorted(set(one) | set(other))), True)

    def test_paid(self):
        self.assertEqual([paid(example()), paid(example().first(1)), paid(example().first(2)), paid(RING)],
                         [[0, 1, 2], [], [0, 1], [0, 1, 2]])
        self.assertEqual(paid(queues=Queues({}, [])), [])
        self.assertEqual(paid(Queues({}, [[], [("a", "coin", 1, "b")], []])), [0, 2])

    def test_paid_against_all_sets(self):
        bigger = 0
        for told in small_queues(93, 300):
            self.assertEqual(paid(told.queues), told.greatest())
            bigger += len(paid(told.queues)) > 2
        self.assertGreater(bigger, 80)

    def test_further_items_and_more_that_is_held_take_nothing(self):
        draw = DrawQueues(94)
        for told in small_queues(95, 150):
            other = draw.told(2)
            self.assertLessEqual(set(paid(told.queues)), set(paid(told.queues.more(other.items))))
            given = told.queues.given(draw.rng.choice("abcd"), "coin", draw.rng.randint(0, 3))
            self.assertLessEqual(set(paid(told.queues)), set(paid(given)))

    def test_what_is_paid_among_the_first_can_be_given_at_once(self):
        for told in small_queues(96, 60):
            for many in range(len(told.items) + 1):
                self.assertIs(is_feasible(told.queues, paid(told.queues.first(many))), True)

    def test_holdings_after(self):
        self.assertEqual(holdings_after(example(), [0, 1, 2]), {"c": {"coin": 1}})
        self.assertEqual(holdings_after(queues=example(), numbers=(1, 0)), {"b": {"coin": 1}})
        self.assertEqual(holdings_after(RING, [2, 0, 1]), {})
        for told in small_queues(97, 100):
            for numbers in told.feasible_sets():
                found = holdings_after(told.queues, numbers)
                wanted = told.after(numbers)
                self.assertEqual(found, wanted)
                self.assertEqual([(member, list(found[member])) for member in found],
                                 [(member, list(wanted[member])) for member in wanted])

    def test_rings_and_rows_of_great_numbers(self):
        members = ["m" + str(number) for number in range(7)]
        ring = Queues({}, ring_of(members, GREAT) * 2)
        self.assertEqual(paid(ring), list(range(14)))
        self.assertEqual(in_turn(ring), [])
        self.assertEqual(in_turn(ring.given("m3", "coin", GREAT)), list(range(14)))
        self.assertEqual(in_turn(ring.given("m3", "coin", GREAT - 1)), [])
        row = Queues({"m0": {"coin": GREAT}}, row_of(members, GREAT))
        self.assertEqual([paid(row), in_turn(row)], [list(range(6))] * 2)
        short = Queues({"m0": {"coin": GREAT - 1}}, row_of(members, GREAT))
        self.assertEqual([paid(short), in_turn(short)], [[], []])
        self.assertEqual(freed_by(short, 5, "m0", "coin"), 1)
        self.assertEqual(freed_by(short, 0, "m5", "coin"), GREAT)
        self.assertEqual(least_freed(short, 0, "coin"), (1, {"m0": 1}))

    def test_a_ring_with_a_gap(self):
        items = ring_of(["a", "b", "c"], 5)
        items[1] = [("b", "coin", 6, "c")]
        gap = Queues({}, items)
        self.assertEqual([paid(gap), in_turn(gap)], [[], []])
        self.assertEqual(paid(gap.given("b", "coin", 1)), [0, 1, 2])
        self.assertEqual(paid(gap.given("a", "coin", 1)), [])
        self.assertEqual(freed_by(gap, 0, "b", "coin"), 1)
        self.assertEqual(freed_by(gap, 2, "c", "coin"), 5)
        self.assertEqual(freed_by(gap, 2, "a", "coin"), None)

    def test_a_few_items_of_many_legs(self):
        members = ["m" + str(number) for number in range(7)]
        items = [[(members[(place + leg) % 7], "t" + str(leg % 5), GREAT - leg, members[(place + leg + 1) % 7])
                  for leg in range(32)] for place in range(14)]
        told = ToldQueues({member: {"t1": GREAT} for member in members}, items)
        for numbers in (paid(told.queues), in_turn(told.queues)):
            self.assertTrue(told.is_feasible(numbers))
        found = paper(told.queues)
        self.assertTrue(told.is_paper(found))
        self.assertEqual(sorted([number for number, _ in found] + paid(told.queues)), list(range(14)))
        first = told.queues.first(10)
        for number in (0, 9):
            freed_by(told.queues, number, "m0", "t0")
            least = least_freed(first, number, "t0")
            self.assertTrue(least is None or number in paid(ToldQueues(
                told.holdings, told.items[:10]).with_given(least[1], "t0").queues))


class InTurnTest(unittest.TestCase):

    def test_in_turn(self):
        self.assertEqual([in_turn(example()), in_turn(RING), in_turn(queues=Queues({}, []))], [[], [], []])
        self.assertEqual(in_turn(example().given("a", "coin", 1)), [0, 1, 2])
        self.assertEqual(in_turn(RING.more([[]])), [3])

    def test_in_drawn_orders(self):
        draw = DrawQueues(98)
        less = 0
        for told in small_queues(99, 200):
            order = list(range(len(told.items)))
            for _ in range(3):
                draw.rng.shuffle(order)
                self.assertEqual(in_turn(told.queues), told.in_turn(order))
            less += in_turn(told.queues) != paid(told.queues)
        self.assertGreater(less, 20)

    def test_bundles(self):
        self.assertEqual(bundles(RING, []), [(0, 1, 2)])
        self.assertEqual(bundles(queues=RING, numbers=[2, 1, 0]), [])
        self.assertEqual(bundles(example(), []), [(0, 1)])
        self.assertEqual(bundles(example(), (0, 1)), [(2,)])

    def test_bundles_against_all_sets(self):
        longer = 0
        for told in small_queues(100, 150):
            for numbers in told.feasible_sets():
                found = bundles(told.queues, list(numbers[::-1]))
                self.assertEqual(found, told.bundles(numbers))
                self.assertEqual(found == [], list(numbers) == paid(told.queues))
                longer += any(len(bundle) > 1 for bundle in found) and len(found) > 1
        self.assertGreater(longer, 10)

    def test_bundle_after_bundle_leads_to_the_greatest_set(self):
        draw = DrawQueues(101)
        for told in small_queues(102, 60):
            gone = []
            found = bundles(told.queues, gone)
            while found:
                gone.extend(draw.rng.choice(found))
                found = bundles(told.queues, gone)
            self.assertEqual(sorted(gone), paid(told.queues))


class PaperTest(unittest.TestCase):

    def test_papers(self):
        self.assertEqual(paper(example().first(1)), [(0, ("short", "a", "coin"))])
        self.assertEqual(paper(queues=example()), [])
        self.assertEqual(paper(RING), [])

    def test_a_paper_tells_just_what_is_not_paid(self):
        behind = short = 0
        for told in small_queues(103, 200):
            found = paper(told.queues)
            self.assertTrue(told.is_paper(found), found)
            self.assertIs(is_paper(told.queues, found), True)
            self.assertEqual(sorted(number for number, _ in found),
                             [number for number in range(len(told.items)) if number not in told.greatest()])
            for pair in found:
                self.assertIsInstance(pair, tuple)
                self.assertIsInstance(pair[1], tuple)
                behind += pair[1][0] == "behind"
                short += pair[1][0] == "short"
            self.assertEqual(found, paper(ToldQueues(told.holdings, told.items).queues))
        self.assertGreater(min(behind, short), 50)

    def test_no_feasible_set_has_an_item_that_a_paper_tells(self):
        for told in small_queues(104, 100):
            numbers = [number for number, _ in paper(told.queues)]
            for chosen in told.feasible_sets():
                self.assertFalse(set(chosen) & set(numbers))

    def test_bent_papers_by_a_look_of_their_own(self):
        right = wrong = 0
        for told in small_queues(105, 120):
            found = paper(told.queues)
            whys = [("behind", number) for number in range(len(told.items))]
            whys += [("short", member, thing) for member, thing in told.places() + [("a", "seat"), ("q", "coin")]]
            papers = [found[::-1]]
            for place, (number, why) in enumerate(found):
                papers.append(found[:place] + found[place + 1:])
                papers.append(found[place:] + found[:place])
                papers.append(found + [(number, why)])
                papers.extend(found[:place] + [(number, other)] + found[place + 1:] for other in whys)
            papers.extend(found + [(number, why)] for number in range(len(told.items)) for why in whys)
            for changed in papers:
                self.assertIs(is_paper(told.queues, changed), told.is_paper(changed), changed)
                right += told.is_paper(changed)
                wrong += not told.is_paper(changed)
        self.assertGreater(min(right, wrong), 500)

    def test_any_objects(self):
        queues = Queues({}, [[("a", "coin", 1, "b")], [("a", "coin", 1, "b"), ("b", "seat", 1, "a")], []])
        for thing in [[], (), [(0, ("short", "a", "coin"))], [[0, ["short", "a", "coin"]], (1, ["behind", 0])],
                      ((1, ("short", "b", "seat")),), [(1, ("short", "a", "coin"))],
                      [(1, ("short", "a", "coin")), (0, ("short", "a", "coin"))]]:
            self.assertIs(is_paper(queues, thing), True, thing)
        first = (0, ("short", "a", "coin"))
        for thing in odd_objects() + [
                [(0,)], [(0, ("short", "a"))], [(0, ("short", "a", "coin", 1))], [(True, ("short", "a", "coin"))],
                [(False, ("short", "a", "coin"))], [(3, ("short", "a", "coin"))], [(-1, ("short", "a", "coin"))],
                [(0, ("short", ["a"], "coin"))], [(0, ("short", "a", ["coin"]))], [(0, "short")], [(0, ())], [(0, None)],
                [first, first], [first, (1, ("behind", False))], [first, (1, ("behind", 0, 0))], [first, (1, ("behind",))],
                [(1, ("behind", 0)), first], [first, (2, ("behind", 0))], [first, (1, ("behind", 1))],
                [first, (1, ("behind", [0]))], [first, (1, ("behind", 7))], [first, (1, ("after", 0))], [first, 1],
                [(0, ("after", "a", "coin"))], [(0, (None, "a", "coin"))], [(0, (["short"], "a", "coin"))],
                [(2, ("short", "a", "coin"))], [(0, ("short", "b", "seat"))], {0: ("short", "a", "coin")}, "ab",
                [("0", ("short", "a", "coin"))], [([0], ("short", "a", "coin"))], [(0, {}), first], [(0, ([],))],
                [(0, ("short", "a", "coin"), 0)], [(0, ("short", None, None))]]:
            if thing in ([], ()):
                continue
            self.assertIs(is_paper(queues, thing), False, thing)


class FreedTest(unittest.TestCase):

    def test_freed_by(self):
        queues = example().first(1)
        self.assertEqual(freed_by(queues, 0, "a", "coin"), 1)
        self.assertIsNone(freed_by(queues=queues, number=0, member="b", thing="coin"))
        self.assertEqual(freed_by(example(), 2, "nobody", "gold"), 0)
        self.assertIsNone(freed_by(queues, 0, "a", "seat"))

    def test_freed_by_by_trying(self):
        found = set()
        for told in small_queues(106, 120):
            for number in range(len(told.items)):
                for member in "abd":
                    for thing in ("coin", "seat"):
                        wanted = next((many for many in range(20) if number in told.with_given(
                            {member: many}, thing).greatest()), None) if number % 2 else freed(told, number, member, thing)
                        self.assertEqual(freed_by(told.queues, number, member, thing), wanted)
                        found.add(wanted)
        self.assertLessEqual({None, 0, 1, 2, 3}, found)

    def test_least_freed(self):
        self.assertEqual(least_freed(example().first(1), 0, "coin"), (1, {"a": 1}))
        self.assertEqual(least_freed(queues=example(), number=1, thing="coin"), (0, {}))
        self.assertEqual(least_freed(example(), 1, "gold"), (0, {}))
        self.assertIsNone(least_freed(example().first(1), 0, "gold"))
        several = Queues({}, [[("b", "coin", 2, "d"), ("a", "coin", 3, "c")]])
        self.assertEqual(least_freed(several, 0, "coin"), (5, {"a": 3, "b": 2}))
        self.assertEqual(list(least_freed(several, 0, "coin")[1]), ["a", "b"])
        self.assertIsNone(freed_by(several, 0, "a", "coin"))

    def test_more_items_can_need_less(self):
        queues = Queues({}, [[("a", "coin", 9, "b")], [("b", "coin", 8, "a")]])
        self.assertEqual(least_freed(queues, 0, "coin"), (1, {"a": 1}))
        self.assertEqual(least_freed(queues.first(1), 0, "coin"), (9, {"a": 9}))

    def test_least_freed_by_trying(self):
        sums = set()
        for told in small_queues(107, 100, 4):
            for number in range(len(told.items)):
                found = least_freed(told.queues, number, "coin")
                wanted = next((many for many in range(9) if any(
                    number in paid(told.with_given(shares, "coin").queues) for shares in all_shares(many))), None)
                if found is None:
                    self.assertIsNone(wanted)
                elif wanted is None:
                    self.assertGreater(found[0], 8)
                else:
                    self.assertEqual(found[0], wanted)
                if found is not None:
                    self.assertEqual(sum(found[1].values()), found[0])
                    self.assertEqual(list(found[1]), sorted(found[1]))
                    self.assertTrue(all(found[1].values()))
                    self.assertIn(number, told.with_given(found[1], "coin").greatest())
                    for member in "abcd":
                        alone = freed_by(told.queues, number, member, "coin")
                        self.assertTrue(alone is None or found[0] <= alone)
                sums.add(None if found is None else found[0])
        self.assertLessEqual({None, 0, 1, 2, 3, 4}, sums)

    def test_errors_in_their_order(self):
        queues = example()
        for thing in odd_objects() + [3, "0", [0], (0,)]:
            with self.assertRaises(BadNumber) as caught:
                freed_by(queues, thing, None, None)
            self.assertIs(caught.exception.number, thing)
            with self.assertRaises(BadNumber) as caught:
                least_freed(queues, thing, None)
            self.assertIs(caught.exception.number, thing)
        for thing in odd_objects() + ["the-till", ["a"]]:
            with self.assertRaises(BadName) as caught:
                freed_by(queues, 0, thing, None)
            self.assertIs(caught.exception.thing, thing)
            for call in [lambda: freed_by(queues, 2, "a", thing), lambda: least_freed(queues, 0, thing)]:
                with self.assertRaises(BadName) as caught:
                    call()
                self.assertIs(caught.exception.thing, thing)

    def test_what_is_passed_and_returned(self):
        queues = example()
        numbers = [1, 0]
        bundles(queues, numbers).clear()
        holdings_after(queues, numbers).clear()
        found = [(0, ["short", "a", "coin"])]
        is_paper(queues, found)
        is_feasible(queues, numbers)
        self.assertEqual((numbers, found), ([1, 0], [(0, ["short", "a", "coin"])]))
        paid(queues).clear()
        in_turn(queues).append(1)
        least_freed(queues, 0, "coin")[1]["a"] = 5
        paper(queues.first(1)).clear()
        self.assertEqual(queues, example())
        self.assertEqual([paid(queues), in_turn(queues), paper(queues.first(1))],
                         [[0, 1, 2], [], [(0, ("short", "a", "coin"))]])
        self.assertEqual(holdings_after(queues, numbers), {"b": {"coin": 1}})


def freed(told, number, member, thing):
    """The same by the program's own paid ones, which other tests hold against all sets."""
    return next((many for many in range(20) if number in paid(told.with_given({member: many}, thing).queues)), None)


def all_shares(many):
    """All shares of so many among four members."""
    return [dict(zip("abcd", shares)) for shares in product(range(many + 1), repeat=4) if sum(shares) == many]


if __name__ == "__main__":
    unittest.main()
