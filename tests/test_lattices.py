"""[5.5], [5.6]: all stable matchings, and the turns between them."""

import unittest
from itertools import combinations, product

from meetings import big_meetings, full_stable, small_meetings
from samples import odd_objects
from seatroads.errors import BadNumber, BadTurns, NotStable
from seatroads.lattices import (
    both_better, both_worse, can_pairs, how_many_stable, needs, stable_at, stable_number, stable_ones, sure_pairs,
    turned, turns)
from seatroads.offices import Office
from seatroads.rounds import Meeting, best


def all_stable(told):
    return told.stable() if len(told.people) < 6 else full_stable(told)


def example():
    ranks = Office({"a": ["points"], "b": ["few"]})
    return Meeting(ranks, [("x", ["a", "b"], 1, None), ("y", ["b", "a"], 2, None)], {"a": 1, "b": 1})


ONE, OTHER = {"x": "a", "y": "b"}, {"x": "b", "y": "a"}


class StableOnesTest(unittest.TestCase):

    def test_against_all_matchings(self):
        for told in small_meetings(51) + big_meetings():
            wanted = all_stable(told)
            found = stable_ones(told.meeting)
            self.assertEqual([list(one.items()) for one in found], [list(one.items()) for one in wanted])
            self.assertEqual(how_many_stable(told.meeting), len(wanted))
            self.assertEqual((found[0], found[-1]), (best(told.meeting), best(told.meeting, "kinds")))

    def test_many_of_them(self):
        self.assertEqual([how_many_stable(told.meeting) for told in big_meetings()], [27, 20, 4])

    def test_numbers(self):
        for told in small_meetings(52, 30) + big_meetings():
            wanted = all_stable(told)
            for number, matching in enumerate(wanted):
                self.assertEqual(stable_at(told.meeting, number), matching)
                self.assertEqual(list(stable_at(told.meeting, number)), sorted(matching))
                self.assertEqual(stable_number(told.meeting, matching), number)
                self.assertEqual(stable_number(told.meeting, dict(reversed(list(matching.items())))), number)
            self.assertIsNone(stable_at(told.meeting, len(wanted)))
            self.assertIsNone(stable_at(told.meeting, 10 ** 30))

    def test_nobody_meets(self):
        meeting = Meeting(Office({}), [], {})
        self.assertEqual(stable_ones(meeting), [{}])
        self.assertEqual([turns(meeting), needs(meeting), turned(meeting, []), can_pairs(meeting)], [[], [], {}, []])
        self.assertEqual(stable_number(meeting, {}), 0)

    def test_not_stable(self):
        meeting = example()
        for thing in odd_objects() + [{"x": "a"}, {"x": "b"}, {"x": "a", "y": "a"}, [("x", "a"), ("y", "b")],
                                      {"x": "a", "y": "b", "z": "a"}, {"x": "a", "y": None}]:
            for call in [lambda: stable_number(meeting, thing), lambda: both_better(meeting, thing, None),
                         lambda: both_better(meeting, ONE, thing), lambda: both_worse(meeting, thing, ONE),
                         lambda: both_worse(meeting, OTHER, thing)]:
                with self.assertRaises(NotStable) as caught:
                    call()
                self.assertIs(caught.exception.matching, thing)

    def test_bad_numbers(self):
        for thing in odd_objects() + ["0", [0], (0,), -7]:
            if thing in (10 ** 6 + 1, 10 ** 30):
                continue
            with self.assertRaises(BadNumber) as caught:
                stable_at(example(), thing)
            self.assertIs(caught.exception.number, thing)

    def test_pairs(self):
        self.assertEqual(can_pairs(example()), [("x", "a"), ("x", "b"), ("y", "a"), ("y", "b")])
        self.assertEqual(sure_pairs(example()), [])
        for told in small_meetings(53) + big_meetings():
            rows = [set(matching.items()) for matching in all_stable(told)]
            self.assertEqual(can_pairs(told.meeting), sorted(set.union(*rows)))
            self.assertEqual(sure_pairs(told.meeting), sorted(set.intersection(*rows)))

    def test_both(self):
        meeting = example()
        self.assertEqual(both_better(meeting, ONE, OTHER), ONE)
        self.assertEqual(both_better(meeting=meeting, one=OTHER, other=ONE), ONE)
        self.assertEqual(both_worse(meeting=meeting, one=ONE, other=OTHER), OTHER)
        self.assertEqual(both_worse(meeting, OTHER, OTHER), OTHER)

    def test_both_against_each_ones_liking(self):
        mixed = 0
        for told in big_meetings() + small_meetings(54, 60):
            found = all_stable(told)
            for one, other in product(found, found):
                better, worse = {}, {}
                for name in sorted(one):
                    pair = sorted([one[name], other[name]], key=told.wishes[name].index)
                    better[name], worse[name] = pair
                self.assertEqual(list(both_better(told.meeting, one, other).items()), list(better.items()))
                self.assertEqual(list(both_worse(told.meeting, one, other).items()), list(worse.items()))
                self.assertIn(better, found)
                self.assertIn(worse, found)
                mixed += better not in (one, other)
        self.assertGreater(mixed, 20)

    def test_what_is_passed_and_returned(self):
        meeting = example()
        one = dict(reversed(list(ONE.items())))
        both_better(meeting, one, one)["x"] = "b"
        both_worse(meeting, one, one)["x"] = "b"
        self.assertEqual(list(one.items()), [("y", "b"), ("x", "a")])
        self.assertEqual([list(both_better(meeting, one, one)), list(both_worse(meeting, one, one))], [["x", "y"]] * 2)
        stable_ones(meeting)[0]["x"] = "b"
        stable_at(meeting, 0).clear()
        for told in (stable_ones, turns, needs, can_pairs):
            wanted = list(told(meeting))
            told(meeting).clear()
            self.assertEqual(told(meeting), wanted)
        numbers = [0]
        turned(meeting, numbers).clear()
        self.assertEqual(numbers, [0])
        self.assertEqual(stable_ones(meeting), [ONE, OTHER])
        self.assertEqual(turned(meeting, [0]), OTHER)


class TurnsTest(unittest.TestCase):

    def test_turns(self):
        self.assertEqual(turns(example()), [(("x", "a", "b"), ("y", "b", "a"))])
        self.assertEqual(needs(example()), [()])
        self.assertEqual(turned(meeting=example(), numbers=()), ONE)
        self.assertEqual(turned(example(), (0,)), OTHER)

    def test_against_the_words(self):
        for told in small_meetings(55) + big_meetings():
            wanted = set()
            for matching in all_stable(told):
                wanted |= set(naive_turns(told, matching))
            self.assertEqual(turns(told.meeting), sorted(wanted))
        self.assertGreater(len(turns(big_meetings()[0].meeting)), 5)

    def test_turns_have_two_or_more_people_from_the_least_name_on(self):
        longer = 0
        for told in big_meetings() + small_meetings(56):
            for turn in turns(told.meeting):
                names = [name for name, _, _ in turn]
                self.assertEqual(min(names), names[0])
                self.assertGreater(len(names), 1)
                longer += len(names) > 2
        self.assertGreater(longer, 0)

    def test_needs_against_all_ways(self):
        deep = 0
        for told in small_meetings(57, 60) + big_meetings():
            ways = all_ways(told, best(told.meeting))
            for number, turn in enumerate(turns(told.meeting)):
                ahead = [set(way[:way.index(turn)]) for way in ways]
                shared = set.intersection(*ahead)
                wanted = tuple(other for other, one in enumerate(turns(told.meeting)) if one in shared)
                self.assertEqual(needs(told.meeting)[number], wanted)
                deep += len(wanted) > 1
        self.assertGreater(deep, 3)

    def test_no_turn_twice_and_all_lead_to_the_end(self):
        for told in small_meetings(58, 60) + big_meetings():
            numbers = list(range(len(turns(told.meeting))))
            self.assertEqual(turned(told.meeting, numbers), best(told.meeting, "kinds"))
            for way in all_ways(told, best(told.meeting))[:50]:
                self.assertEqual(sorted(way), turns(told.meeting))

    def test_each_stable_one_by_one_set_of_turns(self):
        for told in big_meetings() + small_meetings(59, 60):
            many = len(turns(told.meeting))
            needed = needs(told.meeting)
            found, refused = [], 0
            for size in range(many + 1):
                for numbers in combinations(range(many), size):
                    if all(set(needed[number]) <= set(numbers) for number in numbers):
                        matching = turned(told.meeting, numbers[::-1])
                        self.assertEqual(list(matching), sorted(matching))
                        self.assertEqual(matching, done(told, numbers))
                        found.append(matching)
                    elif refused < 60:
                        refused += 1
                        with self.assertRaises(BadTurns):
                            turned(told.meeting, numbers)
            wanted = all_stable(told)
            self.assertEqual(len(found), len(wanted))
            self.assertTrue(all(matching in found for matching in wanted))

    def test_bad_turns(self):
        for thing in odd_objects() + [[1], [-1], [0, 0], ["0"], [True], [False], [[0]], {0: 0}, "0", [None], 0, [0, 1]]:
            if thing in ([], ()):
                continue
            with self.assertRaises(BadTurns) as caught:
                turned(example(), thing)
            self.assertIs(caught.exception.numbers, thing)

    def test_a_list_that_lacks_a_needed_turn(self):
        meeting = big_meetings()[0].meeting
        number = [number for number, needed in enumerate(needs(meeting)) if needed][0]
        numbers = [number]
        with self.assertRaises(BadTurns) as caught:
            turned(meeting, numbers)
        self.assertIs(caught.exception.numbers, numbers)


def naive_turns(told, matching):
    """The turns of a matching by the words of [5.6]."""
    nexts = {}
    for name, kind in matching.items():
        behind = told.wishes[name][told.wishes[name].index(kind) + 1:]
        for other in behind:
            holders = [one for one in told.rank(other) if matching.get(one) == other]
            room = len(holders) < told.free.get(other, 0)
            if room or holders and told.rank(other).index(name) < told.rank(other).index(holders[-1]):
                if not room:
                    nexts[name] = (other, holders[-1])
                break
    found = []
    for name in nexts:
        row, at = [], name
        while at in nexts and at not in row:
            row.append(at)
            at = nexts[at][1]
        if at == name and min(row) == name:
            found.append(tuple((one, matching[one], nexts[one][0]) for one in row))
    return found


def after(matching, turn):
    later = dict(matching)
    later.update({name: kind for name, _, kind in turn})
    return later


def all_ways(told, matching, most=200):
    """Ways of turns from a matching on until there is none, all or very many of them."""
    found = []
    ahead = [(matching, [])]
    while ahead and len(found) < most:
        at, way = ahead.pop()
        there = naive_turns(told, at)
        if not there:
            found.append(way)
        ahead.extend((after(at, turn), way + [turn]) for turn in there)
    return found


def done(told, numbers):
    """The matching behind some turns, one after another as they are there."""
    matching = best(told.meeting)
    left = [turns(told.meeting)[number] for number in numbers]
    while left:
        turn = [one for one in left if one in naive_turns(told, matching)][0]
        left.remove(turn)
        matching = after(matching, turn)
    return matching


if __name__ == "__main__":
    unittest.main()
