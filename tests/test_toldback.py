"""[11.3] to [11.6]: what letters tell of the wishes that nobody told."""

import math
import unittest
from itertools import permutations

from letters_told import DrawTold, ToldCourse, many_told, wish_lists
from oracle import Naive
from samples import ALL_RANKS, HOMES, MIXED, TWO, odd_objects
from seatroads.errors import BadKind, BadNumber, BadWishes, NoPerson, NotAsked
from seatroads.letters import Told, explains
from seatroads.offices import Office
from seatroads.toldback import (clash, how_many_at, how_many_told, known_of, least_wishes, may_get, wish_number,
                                wishes_at, would_tell)

OFFICE = Office({"gym": ["points"], "pool": []})
SEEN = {1: ("come", "ann", 5, None), 2: ("come", "bob", 9, None), 3: ("place", "gym"), 4: ("place", "pool")}
SMALL = [TWO, HOMES, {"a": ["late"]}, MIXED]


def told():
    return Told(OFFICE, SEEN, [(3, "ann", "gym")])


def clashing():
    """ann waits, lets a place of the gym stand free, and then gets one."""
    return Told(OFFICE, {1: ("come", "ann", 0, None), 2: ("place", "gym"), 3: ("come", "bob", 0, None),
                         4: ("place", "gym"), 5: ("place", "gym")}, [(5, "ann", "gym")])


def small_told(seed, many, length=7):
    """Told ones of which all dicts can be gone through."""
    for one in many_told(seed, many, length, SMALL):
        if len(wish_lists(one.kinds)) ** len(one.asked) <= 700:
            yield one


def sure_of(one, dicts):
    """What all of some dicts have in common: pairs (time, kind) that are let, and that are not."""
    let = {(time, kind) for time in one.asked for kind in one.kinds if all(kind in row[time] for row in dicts)}
    barred = {(time, kind) for time in one.asked for kind in one.kinds if all(kind not in row[time] for row in dicts)}
    return let, barred


class KnownTest(unittest.TestCase):

    def test_told(self):
        self.assertEqual(known_of(told(), 1), (("gym",), (), None, ()))
        self.assertEqual(known_of(told=told(), time=2), ((), ("gym", "pool"), None, ()))

    def test_a_letter_at_once(self):
        office = Office({"c": [], "a": [], "b": [], "d": []})
        events = {1: ("place", "c"), 2: ("place", "a"), 3: ("place", "b"), 4: ("place", "b"), 5: ("come", "x", 0, None)}
        self.assertEqual(known_of(Told(office, events, [(5, "x", "b")]), 5), (("b",), (), "b", ("a", "c")))
        self.assertEqual(known_of(Told(office, events, []), 5), ((), ("a", "b", "c"), None, ()))

    def test_a_clash_stands_in_both(self):
        self.assertEqual(known_of(clashing(), 1), (("gym",), ("gym",), None, ()))

    def test_wishes_hold_until_a_change_or_a_leave(self):
        events = {1: ("come", "x", 0, None), 2: ("place", "gym"), 3: ("change", "x"), 4: ("place", "pool"),
                  5: ("leave", "x"), 6: ("place", "gym")}
        one = Told(OFFICE, events, [])
        self.assertEqual(known_of(one, 1), ((), ("gym",), None, ()))
        self.assertEqual(known_of(one, 3), ((), ("gym", "pool"), None, ()))

    def test_not_asked(self):
        for thing in odd_objects() + [3, 4, 5, True, "1", [1], None]:
            for call in (lambda: known_of(told(), thing), lambda: how_many_at(told(), thing),
                         lambda: wishes_at(told(), thing, None), lambda: wish_number(told(), thing, None)):
                with self.assertRaises(NotAsked) as caught:
                    call()
                self.assertIs(caught.exception.time, thing)
        change = Told(OFFICE, {1: ("change", "x")}, [])
        with self.assertRaises(NotAsked):
            known_of(change, 1)

    def test_is_what_all_that_explains_has_in_common(self):
        some = 0
        for one in small_told(190, 120):
            dicts = one.explaining()
            if not dicts:
                continue
            let, barred = sure_of(one, dicts)
            for time in one.asked:
                found = known_of(one.told, time)
                self.assertEqual(found[0], tuple(sorted(kind for at, kind in let if at == time)))
                self.assertEqual(found[1], tuple(sorted(kind for at, kind in barred if at == time)))
                self.assertEqual(found[2], one.said[time]["first"])
                self.assertEqual(found[3], tuple(kind for kind in one.said[time]["free"]
                                                 if found[2] is not None and kind != found[2]))
                some += len(dicts) > 1
        self.assertGreater(some, 60)

    def test_against_a_going_of_its_own(self):
        for one in many_told(191, 200, 16, ALL_RANKS):
            for time in one.asked:
                said = one.said[time]
                let, barred, first, behind = known_of(one.told, time)
                self.assertEqual(let, tuple(sorted({kind for kind, _ in said["let"]})))
                self.assertEqual(barred, tuple(sorted({kind for kind, _ in said["barred"]})))
                self.assertEqual(first, said["first"])
                self.assertEqual(behind, tuple(kind for kind in said["free"] if first and kind != first))


class ClashTest(unittest.TestCase):

    def test_told(self):
        self.assertIsNone(clash(told()))
        self.assertEqual(clash(told=clashing()), (5, 1, "gym", 5, 2))

    def test_at_the_very_come(self):
        one = Told(OFFICE, {1: ("place", "gym"), 2: ("come", "ann", 0, None), 4: ("place", "gym")}, [(4, "ann", "gym")])
        self.assertEqual(clash(one), (4, 2, "gym", 4, 2))

    def test_the_least_one(self):
        events = {1: ("come", "ann", 0, None), 2: ("come", "bob", 0, None), 3: ("place", "gym"), 4: ("place", "pool"),
                  5: ("place", "pool"), 6: ("place", "gym"), 7: ("place", "pool")}
        self.assertEqual(clash(Told(OFFICE, events, [(6, "bob", "gym"), (7, "ann", "pool")])), (6, 2, "gym", 6, 3))
        self.assertEqual(clash(Told(OFFICE, events, [(7, "ann", "pool")])), (7, 1, "pool", 7, 4))

    def test_against_all_that_explains(self):
        both = {True: 0, False: 0}
        for one in small_told(192, 220):
            found = clash(one.told)
            self.assertEqual(found is None, one.explaining() != [])
            self.assertEqual(found, min(one.clashes(), default=None))
            both[found is None] += 1
        self.assertGreater(min(both.values()), 12)

    def test_bent_letters(self):
        some = 0
        draw = DrawTold(193)
        for number in range(250):
            one = draw.bent(ALL_RANKS[number % len(ALL_RANKS)], 15)
            found = clash(one.told)
            self.assertEqual(found, min(one.clashes(), default=None))
            if found is not None:
                some += 1
                last, time, kind, let, barred = found
                self.assertIn(kind, known_of(one.told, time)[0])
                self.assertIn(kind, known_of(one.told, time)[1])
                self.assertEqual(how_many_at(one.told, time), 0)
                # Without the letters and the events from last on some wishes explain the rest.
                rest = Told(Office(one.ranks), {at: event for at, event in one.events.items() if at < last},
                            [letter for letter in one.letters if letter[0] < last])
                self.assertIsNone(clash(rest))
                self.assertIs(explains(rest, least_wishes(rest)), True)
        self.assertGreater(some, 80)

    def test_true_ones_never_clash(self):
        draw = DrawTold(194)
        for number in range(120):
            one, wishes = draw.true(ALL_RANKS[number % len(ALL_RANKS)], 16)
            self.assertIsNone(clash(one.told))
            for time, row in wishes.items():
                self.assertEqual(wishes_at(one.told, time, wish_number(one.told, time, row)), tuple(row))


class AllOfThemTest(unittest.TestCase):

    def test_told(self):
        one = told()
        self.assertEqual([how_many_at(one, 1), how_many_at(told=one, time=2), how_many_told(told=one)], [3, 1, 3])
        self.assertEqual([wishes_at(one, 1, number) for number in range(4)],
                         [("gym",), ("gym", "pool"), ("pool", "gym"), None])
        self.assertEqual(wishes_at(told=one, time=2, number=0), ())
        self.assertEqual(wish_number(told=one, time=1, wishes=["pool", "gym"]), 2)
        self.assertEqual(list(least_wishes(told=one).items()), [(1, ("gym",)), (2, ())])

    def test_nobody_is_asked(self):
        one = Told(OFFICE, {1: ("place", "gym")}, [])
        self.assertEqual((how_many_told(one), least_wishes(one), clash(one)), (1, {}, None))

    def test_an_office_without_kinds(self):
        one = Told(Office({}), {1: ("come", "x", 0, None)}, [])
        self.assertEqual((how_many_told(one), wishes_at(one, 1, 0), wishes_at(one, 1, 1)), (1, (), None))
        self.assertEqual(wish_number(one, 1, []), 0)

    def test_where_it_clashes(self):
        one = clashing()
        self.assertEqual((how_many_at(one, 1), how_many_at(one, 3), how_many_told(one)), (0, 2, 0))
        self.assertIsNone(wishes_at(one, 1, 0))
        self.assertIsNone(least_wishes(one))
        with self.assertRaises(BadWishes):
            wish_number(one, 1, [])

    def test_bad_numbers(self):
        for thing in [-1, True, False, None, "0", [0], (), {}, OFFICE]:
            with self.assertRaises(BadNumber) as caught:
                wishes_at(told(), 1, thing)
            self.assertIs(caught.exception.number, thing)
        self.assertIsNone(wishes_at(told(), 1, 10 ** 30))

    def test_bad_wishes(self):
        for thing in odd_objects() + [["pool"], ["gym", "gym"], ["bath"], "gym", {"gym": 1}, [["gym"]], ["gym", None]]:
            if thing in ([], ()):
                thing = list(thing)
            with self.assertRaises(BadWishes) as caught:
                wish_number(told(), 1, thing)
            self.assertIs(caught.exception.thing, thing)

    def test_against_all_dicts(self):
        for one in small_told(195, 140):
            dicts = one.explaining()
            self.assertEqual(how_many_told(one.told), len(dicts))
            if dicts:
                for time in one.asked:
                    self.assertEqual(how_many_at(one.told, time), len({row[time] for row in dicts}))
                least = {time: min((row[time] for row in dicts), key=lambda row: (len(row), row)) for time in one.asked}
                self.assertEqual(list(least_wishes(one.told).items()), list(least.items()))
                self.assertIs(explains(one.told, least), True)

    def test_against_all_lists(self):
        ranks = {kind: words for kind, words in zip("abcde", [["points"], [], ["late"], ["home", "few"], ["early"]])}
        for one in many_told(196, 40, 16, [ranks]):
            for time in one.asked:
                rows = one.lists_at(time)
                self.assertEqual(how_many_at(one.told, time), len(rows))
                for number, row in list(enumerate(rows))[::1 + len(rows) // 25]:
                    self.assertEqual(wishes_at(one.told, time, number), row)
                    self.assertIsInstance(wishes_at(one.told, time, number), tuple)
                    self.assertEqual(wish_number(one.told, time, list(row)), number)
                self.assertIsNone(wishes_at(one.told, time, len(rows)))
                for row in wish_lists(one.kinds)[::17]:
                    if row not in rows:
                        with self.assertRaises(BadWishes):
                            wish_number(one.told, time, row)

    def test_counted_by_multiplying(self):
        for one in many_told(197, 60, 16, ALL_RANKS):
            many = 1
            for time in one.asked:
                let, barred, first, behind = known_of(one.told, time)
                others = [kind for kind in one.kinds if kind not in let + barred]
                total = 0
                for number in range(2 ** len(others)):
                    chosen = [kind for at, kind in enumerate(others) if number >> at & 1]
                    later = sum(kind in behind for kind in chosen)
                    total += math.factorial(len(let) + len(chosen)) // (later + 1)
                self.assertEqual(how_many_at(one.told, time), 0 if set(let) & set(barred) else total)
                many *= how_many_at(one.told, time)
            self.assertEqual(how_many_told(one.told), many)

    def test_sixteen_comers_and_five_kinds(self):
        office = Office({kind: [] for kind in "abcde"})
        one = Told(office, {time: ("come", "p" + str(time), 0, None) for time in range(16)}, [])
        self.assertEqual(how_many_at(one, 7), 326)
        self.assertEqual(how_many_told(one), 326 ** 16)
        self.assertEqual(least_wishes(one), {time: () for time in range(16)})

    def test_very_many_lists(self):
        kinds = "abcdefghijklm"
        office = Office({kind: [] for kind in kinds})
        events = {number: ("place", kind) for number, kind in enumerate("cfk")}
        one = Told(office, {**events, 5: ("come", "x", 0, None)}, [(5, "x", "f")])
        whole = sum(math.comb(2, late) * math.comb(10, others) * math.factorial(1 + late + others) // (late + 1)
                    for late in range(3) for others in range(11))
        self.assertEqual(how_many_at(one, 5), whole)
        last = wishes_at(one, 5, whole - 1)
        self.assertEqual(last, ("m", "l", "j", "i", "h", "g", "f", "k", "e", "d", "c", "b", "a"))
        self.assertIsNone(wishes_at(one, 5, whole))
        for number in range(0, whole, whole // 37):
            row = wishes_at(one, 5, number)
            self.assertEqual(wish_number(one, 5, row), number)
            self.assertTrue(all(row.index("f") < row.index(kind) for kind in "ck" if kind in row))


class NextTest(unittest.TestCase):

    def test_told(self):
        one = told()
        self.assertEqual(may_get(one, "gym"), [None])
        self.assertEqual(would_tell(one, "gym", None), [])
        one = Told(OFFICE, {1: ("come", "ann", 5, None), 2: ("come", "bob", 9, None)}, [])
        self.assertEqual(may_get(told=one, kind="gym"), ["bob", "ann", None])
        self.assertEqual(may_get(one, "pool"), ["ann", "bob", None])
        self.assertEqual(would_tell(one, "gym", "ann"), [(1, "gym", True), (2, "gym", False)])
        self.assertEqual(would_tell(told=one, kind="pool", name="ann"), [(1, "pool", True)])
        self.assertEqual(would_tell(one, "pool", None), [(1, "pool", False), (2, "pool", False)])

    def test_where_it_clashes_nobody_can(self):
        self.assertEqual(may_get(clashing(), "gym"), [])
        for call in (lambda: may_get(clashing(), "bath"), lambda: would_tell(clashing(), "bath", "ann")):
            self.assertRaises(BadKind, call)
        for name in (None, "ann", "bob"):
            with self.assertRaises(NoPerson) as caught:
                would_tell(clashing(), "gym", name)
            self.assertIs(caught.exception.name, name)

    def test_errors(self):
        for thing in odd_objects() + ["bath", ["gym"], None]:
            for call in (lambda: may_get(told(), thing), lambda: would_tell(told(), thing, 3)):
                with self.assertRaises(BadKind) as caught:
                    call()
                self.assertIs(caught.exception.kind, thing)
        for thing in [one for one in odd_objects() if one is not None] + ["ann", "bob", "cleo", ["bob"]]:
            with self.assertRaises(NoPerson) as caught:
                would_tell(told(), "gym", thing)
            self.assertIs(caught.exception.name, thing)

    def test_by_going_through_all_that_explains(self):
        tried = 0
        for one in small_told(198, 110):
            dicts = one.explaining()
            now = sure_of(one, dicts)
            for kind in one.kinds:
                by_getter = {}
                for wishes in dicts:
                    events = one.whole(wishes)
                    last = max(events, default=0) + 1
                    events[last] = ("place", kind)
                    letters = Naive(one.ranks, events).letters
                    getter = letters[-1][1] if letters and letters[-1][0] == last else None
                    by_getter.setdefault(getter, []).append(wishes)
                wanted = [name for name in one.in_rank(kind) if name in by_getter]
                self.assertEqual(may_get(one.told, kind), wanted + [None] if dicts else [])
                self.assertEqual(None in by_getter, dicts != [])
                for name in by_getter:
                    then = sure_of(one, by_getter[name])
                    sure = [(time, other, True) for time, other in then[0] - now[0]]
                    sure += [(time, other, False) for time, other in then[1] - now[1]]
                    self.assertEqual(would_tell(one.told, kind, name), sorted(sure))
                    tried += 1
        self.assertGreater(tried, 150)

    def test_who_waits_and_is_not_known_not_to_let_it(self):
        for one in many_told(199, 120, 16, ALL_RANKS):
            for kind in one.kinds:
                wanted = [name for name in one.in_rank(kind)
                          if kind not in known_of(one.told, one.since[name])[1]] + [None]
                self.assertEqual(may_get(one.told, kind), wanted if clash(one.told) is None else [])

    def test_what_is_returned_is_new(self):
        one = told()
        for call in (lambda: least_wishes(one), lambda: may_get(one, "gym")):
            self.assertTrue(call())
            call().clear()
            self.assertTrue(call())

    def test_names_of_the_kinds_tell_nothing_else(self):
        turned = {"a": "d", "b": "c"}
        for one in many_told(200, 40, 12, [TWO]):
            ranks = {turned[kind]: words for kind, words in one.ranks.items()}
            events = {time: tuple(turned.get(part, part) if part in turned else part for part in event)
                      for time, event in one.events.items()}
            other = ToldCourse(ranks, events, [(time, name, turned[kind]) for time, name, kind in one.letters])
            self.assertEqual(how_many_told(one.told), how_many_told(other.told))
            self.assertEqual([sorted(map(turned.get, known_of(one.told, time)[0])) for time in one.asked],
                             [sorted(known_of(other.told, time)[0]) for time in other.asked])


if __name__ == "__main__":
    unittest.main()
