"""[11.1], [11.2]: letters that are told of people whose wishes are told to nobody."""

import unittest

from letters_told import DrawTold, ToldCourse, many_told, seen, wish_lists
from oracle import Naive
from samples import ALL_RANKS, HOMES, MIXED, TWO, odd_objects
from seatroads.courses import Course
from seatroads.errors import BadEvent, BadLetter, BadTime
from seatroads.letters import Told, explains
from seatroads.offices import Office
from seatroads.runs import run_of

OFFICE = Office({"gym": ["points"], "pool": []})
SEEN = {1: ("come", "ann", 5, None), 2: ("come", "bob", 9, "gym"), 3: ("place", "gym"), 4: ("place", "pool")}


def told():
    return Told(OFFICE, SEEN, [(3, "ann", "gym")])


class ToldTest(unittest.TestCase):

    def test_told(self):
        one = Told(office=OFFICE, events={4: ["place", "pool"], 1: ["come", "ann", 5, None], 2: SEEN[2], 3: SEEN[3]},
                   letters=([3, "ann", "gym"],))
        self.assertIs(one.office, OFFICE)
        self.assertEqual(one.letters(), [(3, "ann", "gym")])
        self.assertEqual(list(one.events().items()), list(SEEN.items()))
        self.assertTrue(all(isinstance(event, tuple) for event in one.events().values()))
        self.assertEqual([one.waiting(time) for time in range(5)], [[], ["ann"], ["ann", "bob"], ["bob"], ["bob"]])
        self.assertEqual([one.free(time) for time in range(5)], [{}, {}, {}, {}, {"pool": 1}])
        self.assertEqual(one.asked(), [1, 2])
        self.assertEqual(one, told())

    def test_nothing(self):
        one = Told(Office({}), {}, [])
        self.assertEqual([one.letters(), one.events(), one.asked(), one.waiting(3), one.free(3)], [[], {}, [], [], {}])
        bare = Told(Office({}), {1: ("come", "x", 0, None)}, ())
        self.assertEqual([bare.asked(), bare.waiting(1)], [[1], ["x"]])

    def test_against_a_going_of_its_own(self):
        for one in many_told(180, 120, 14, ALL_RANKS):
            self.assertEqual(one.told.asked(), one.asked)
            self.assertEqual(one.told.letters(), one.letters)
            for time in range(0, 32):
                names, free = one.behind(time)
                self.assertEqual((one.told.waiting(time), one.told.free(time)), (names, free))
                self.assertEqual(list(one.told.free(time)), sorted(free))

    def test_of_a_course_it_is_as_its_run(self):
        draw = DrawTold(181)
        for number in range(80):
            ranks = ALL_RANKS[number % len(ALL_RANKS)]
            events, letters = draw.course(ranks, 14)
            run = run_of(Course(Office(ranks), events))
            one = Told(Office(ranks), {time: seen(event) for time, event in events.items()}, letters)
            for time in range(32):
                self.assertEqual((one.waiting(time), one.free(time)), (run.waiting(time), run.free(time)))

    def test_bad_times(self):
        for thing in odd_objects() + ["1", [1], -1]:
            for call in (told().waiting, told().free):
                with self.assertRaises(BadTime) as caught:
                    call(thing)
                self.assertIs(caught.exception.time, thing)
        self.assertEqual(told().waiting(time=10 ** 6), ["bob"])

    def test_equality(self):
        one = told()
        for other in [Told(OFFICE, SEEN, []), Told(Office({"gym": ["points"], "pool": ["late"]}), SEEN, [(3, "ann", "gym")]),
                      Told(OFFICE, {**SEEN, 5: ("place", "gym")}, [(3, "ann", "gym")]),
                      Told(OFFICE, SEEN, [(3, "bob", "gym")])] + odd_objects():
            self.assertIs(one == other, False)
            self.assertIs(other == one, False)
        self.assertIs(one == told(), True)

    def test_what_is_passed_can_change_later(self):
        events, letters = {1: ["come", "ann", 5, None], 3: ["place", "gym"]}, [[3, "ann", "gym"]]
        one = Told(OFFICE, events, letters)
        self.assertEqual((events, letters), ({1: ["come", "ann", 5, None], 3: ["place", "gym"]}, [[3, "ann", "gym"]]))
        events[1][1] = "bob"
        events[2] = None
        letters[0].clear()
        letters.append(None)
        self.assertEqual(one, Told(OFFICE, {1: ("come", "ann", 5, None), 3: ("place", "gym")}, [(3, "ann", "gym")]))

    def test_what_is_returned_is_new(self):
        one = told()
        for call in (one.letters, one.asked, lambda: one.waiting(3)):
            self.assertTrue(call())
            call().clear()
        one.events().clear()
        one.free(4).clear()
        self.assertEqual(one, told())
        self.assertEqual([one.letters(), one.asked(), one.waiting(3), one.free(4)],
                         [[(3, "ann", "gym")], [1, 2], ["bob"], {"pool": 1}])


class BadEventsTest(unittest.TestCase):

    def test_no_dict(self):
        for thing in [None, [], (), "", 3, True, OFFICE, told()]:
            with self.assertRaises(BadEvent) as caught:
                Told(OFFICE, thing, None)
            self.assertIs(caught.exception.time, thing)

    def test_the_first_key_in_the_order_of_the_dict(self):
        for key in [-1, 10 ** 6 + 1, True, None, "1", (1,)]:
            with self.assertRaises(BadEvent) as caught:
                Told(OFFICE, {9: ("place", "gym"), key: ("place", "gym"), 2: None}, None)
            self.assertIs(caught.exception.time, key)
        for event in odd_objects() + [
                ("gather",), ("round",), ("come", "x", ["gym"], 5, None), ("come", "x", 5), ("come", "x", 5, "bath"),
                ("come", "X", 5, None), ("come", "x", -1, None), ("come", "x", True, None), ("change", "x", ["gym"]),
                ("change",), ("change", "X"), ("change", "x", "gym"), ("place",), ("place", "bath"), ("leave",),
                ("leave", "x", 1), ("withdraw", None), ("come", "x", 5, None, None), [["come"], "x", 5, None], "come"]:
            with self.assertRaises(BadEvent) as caught:
                Told(OFFICE, {9: ("place", "gym"), 5: event, -2: None}, None)
            self.assertEqual(caught.exception.time, 5)

    def test_a_name_told_again(self):
        events = {9: ("come", "x", 5, None), 4: ("come", "x", 5, None), 6: ("leave", "x")}
        with self.assertRaises(BadEvent) as caught:
            Told(OFFICE, events, None)
        self.assertEqual(caught.exception.time, 9)
        # A key that is no time counts ahead of a name that is told again.
        with self.assertRaises(BadEvent) as caught:
            Told(OFFICE, {**events, -1: ("place", "gym")}, None)
        self.assertEqual(caught.exception.time, -1)


class BadLettersTest(unittest.TestCase):

    def check(self, letters, index, events=SEEN):
        with self.assertRaises(BadLetter) as caught:
            Told(OFFICE, events, letters)
        self.assertEqual(caught.exception.index, index)

    def test_no_list(self):
        for thing in [None, True, 3, "", {}, OFFICE]:
            self.check(thing, 0)

    def test_no_letters(self):
        for thing in odd_objects() + [(4, "bob"), (4, "bob", "pool", 1), ("4", "bob", "pool"), (True, "bob", "pool"),
                                      (4, "Bob", "pool"), (4, "bob", "bath"), (4, None, "pool"), (4, ["bob"], "pool"),
                                      (4, "bob", ["pool"]), (4, "bob", None)]:
            self.check([(3, "ann", "gym"), thing, None], 1)

    def test_times(self):
        self.check([(3, "ann", "gym"), (3, "ann", "gym")], 1)
        self.check([(4, "bob", "pool"), (3, "ann", "gym")], 1)
        self.check([(3, "ann", "gym"), (5, "bob", "pool")], 1)
        self.check([(0, "ann", "gym")], 0)

    def test_at_a_place(self):
        self.check([(3, "ann", "pool")], 0)
        self.check([(3, "cleo", "gym")], 0)
        self.check([(3, "ann", "gym"), (4, "ann", "pool")], 1)
        self.assertEqual(Told(OFFICE, SEEN, [(3, "bob", "gym"), (4, "ann", "pool")]).waiting(4), [])

    def test_at_a_come(self):
        events = {1: ("place", "gym"), 2: ("come", "ann", 0, None), 3: ("come", "bob", 0, None)}
        self.assertEqual(Told(OFFICE, events, [(2, "ann", "gym")]).free(2), {})
        self.check([(2, "bob", "gym")], 0, events)
        self.check([(2, "ann", "pool")], 0, events)
        self.check([(2, "ann", "gym"), (3, "bob", "gym")], 1, events)
        self.check([(1, "ann", "gym")], 0, events)
        for kind in odd_objects() + [["gym"], {"gym": 1}]:
            self.check([(2, "ann", kind)], 0, events)

    def test_at_a_change_of_one_who_waits(self):
        events = {1: ("come", "ann", 0, None), 2: ("place", "gym"), 3: ("change", "ann"), 4: ("change", "bob"),
                  5: ("change", "ann")}
        one = Told(OFFICE, events, [(3, "ann", "gym")])
        self.assertEqual((one.asked(), one.waiting(3), one.free(3)), ([1, 3], [], {}))
        self.check([(3, "bob", "gym")], 0, events)
        self.check([(3, "ann", "pool")], 0, events)
        self.check([(4, "bob", "gym")], 0, events)
        self.check([(4, "ann", "gym")], 0, events)
        self.check([(3, "ann", "gym"), (5, "ann", "gym")], 1, events)
        self.assertEqual(Told(OFFICE, events, [(5, "ann", "gym")]).asked(), [1, 3, 5])

    def test_at_other_events(self):
        events = {1: ("come", "ann", 0, None), 2: ("place", "gym"), 3: ("leave", "ann"), 4: ("withdraw", "gym")}
        for time in (3, 4):
            self.check([(time, "ann", "gym")], 0, events)

    def test_against_all_letters(self):
        for one in many_told(182, 40, 9, [TWO, HOMES]):
            for at in range(len(one.letters) + 1):
                ahead = one.letters[:at]
                begun = ToldCourse(one.ranks, one.events, ahead)
                last = max([letter[0] for letter in ahead], default=-1)
                for time in one.events:
                    event = one.events[time]
                    names, free = begun.behind(time - 1)
                    for name in ["p0", "p1", "p2", "p3"]:
                        for kind in one.ranks:
                            can = time > last
                            if event[0] == "place":
                                can = can and name in names and kind == event[1]
                            else:
                                can = can and name == event[1] and kind in free and (
                                    event[0] == "come" or (event[0] == "change" and name in names))
                            if can:
                                Told(Office(one.ranks), one.events, ahead + [(time, name, kind)])
                            else:
                                with self.assertRaises(BadLetter) as caught:
                                    Told(Office(one.ranks), one.events, ahead + [(time, name, kind), None])
                                self.assertEqual(caught.exception.index, at)


class ExplainsTest(unittest.TestCase):

    def test_told(self):
        for wishes in [{1: ["gym"], 2: []}, {2: (), 1: ("gym", "pool")}, {1: ["pool", "gym"], 2: ()}]:
            self.assertIs(explains(told=told(), wishes=wishes), True)

    def test_no_such_dicts(self):
        for thing in odd_objects() + [
                {1: ["gym"]}, {1: ["gym"], 2: [], 3: []}, {1: ["gym"], 3: []}, {1: ["gym"], 9: []}, {1: ["gym"], 2: ["gym"]}, {1: ["gym"], 2: ["pool"]},
                {1: ["pool"], 2: []}, {1: "gym", 2: []}, {1: ["gym"], 2: None}, {1: ["gym", "gym"], 2: []},
                {1: ["bath", "gym"], 2: []}, {True: ["gym"], 2: []}, {"1": ["gym"], 2: []}, [(1, ["gym"]), (2, [])],
                {1: [["gym"]], 2: []}, {1: ["gym"], None: []}, {1: ["gym"], (2,): []}]:
            self.assertIs(explains(told(), thing), False)

    def test_true_ones_explain(self):
        draw = DrawTold(183)
        for number in range(120):
            one, wishes = draw.true(ALL_RANKS[number % len(ALL_RANKS)], 16)
            self.assertIs(explains(one.told, wishes), True)

    def test_against_all_dicts(self):
        found = {True: 0, False: 0}
        for one in many_told(184, 60, 7, [TWO, HOMES, {"a": ["late"]}]):
            if len(one.asked) <= 4:
                for wishes in one.all_wishes():
                    wanted = one.explains(wishes)
                    self.assertIs(explains(one.told, wishes), wanted)
                    # Wishes explain exactly if each of them by itself is as [11.3] tells it.
                    self.assertEqual(wanted, all(one.fits(time, row) for time, row in wishes.items()))
                    found[wanted] += 1
        self.assertGreater(min(found.values()), 300)

    def test_changes_of_nobody_can_have_any_wishes(self):
        one = Told(Office(MIXED), {1: ("change", "x"), 2: ("place", "a")}, [])
        self.assertIs(explains(one, {}), True)
        for row in wish_lists(MIXED):
            self.assertEqual(Naive(MIXED, {1: ("change", "x", row), 2: ("place", "a")}).letters, [])

    def test_what_is_passed_stays(self):
        wishes = {1: ["gym"], 2: []}
        explains(told(), wishes)
        self.assertEqual(wishes, {1: ["gym"], 2: []})


if __name__ == "__main__":
    unittest.main()
