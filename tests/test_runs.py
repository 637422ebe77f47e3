"""[3.5], [3.6]: the plain course and its run; rounds of a course ([5.1] to [5.3])."""

import unittest

from oracle import Naive, best_round, stable_ones
from samples import ALL_RANKS, MIXED, SMALL, TWO, Draw, odd_objects, rows, timed
from seatroads.courses import Course
from seatroads.errors import BadKind, BadTime, NoPerson
from seatroads.offices import Office
from seatroads.runs import run_of


def run(ranks, events):
    return run_of(Course(Office(ranks), events))


def come(name, wishes, points=0, home=None):
    return ("come", name, tuple(wishes), points, home)


class PlainTest(unittest.TestCase):

    def test_nothing(self):
        nothing = run({"a": []}, {})
        self.assertEqual(nothing.letters(), [])
        for time in [0, 5, 10 ** 6]:
            self.assertEqual(nothing.waiting(time), [])
            self.assertEqual(nothing.free(time), {})
            self.assertEqual(nothing.list_of("a", time), [])

    def test_who_comes_takes_the_first_of_their_own_wishes_that_is_free(self):
        got = run({"a": [], "b": [], "c": []}, {
            1: ("place", "c"), 2: ("place", "b"), 3: ("place", "a"), 4: come("x", "ba"), 5: come("y", "ba"),
            6: come("z", "ba"), 7: come("w", "c")})
        self.assertEqual(got.letters(), [(4, "x", "b"), (5, "y", "a"), (7, "w", "c")])
        self.assertEqual(got.waiting(7), ["z"])
        self.assertEqual(got.free(7), {})
        self.assertEqual([got.free(time) for time in range(8)], [
            {}, {"c": 1}, {"b": 1, "c": 1}, {"a": 1, "b": 1, "c": 1}, {"a": 1, "c": 1}, {"c": 1}, {"c": 1}, {}])

    def test_a_place_goes_to_the_first_of_those_who_let_it(self):
        got = run({"a": ["points"], "b": []}, {
            1: come("x", "b", 9), 2: come("y", "a", 1), 3: come("z", "ab", 5), 4: come("w", "", 9),
            5: ("place", "a"), 6: ("place", "a"), 7: ("place", "a")})
        self.assertEqual(got.letters(), [(5, "z", "a"), (6, "y", "a")])
        self.assertEqual(got.waiting(7), ["x", "w"])
        self.assertEqual(got.free(7), {"a": 1})

    def test_free_dicts_ascend(self):
        got = run({"b": [], "a": [], "c": []}, {1: ("place", "c"), 2: ("place", "b"), 3: ("place", "a"),
                                                4: ("place", "b")})
        self.assertEqual(list(got.free(4).items()), [("a", 1), ("b", 2), ("c", 1)])

    def test_questions_ahead_of_at_between_and_behind(self):
        got = run({"a": []}, {10: come("x", "a"), 20: ("place", "a"), 30: ("place", "a")})
        for time, waiting, free in [(0, [], {}), (9, [], {}), (10, ["x"], {}), (11, ["x"], {}), (19, ["x"], {}),
                                    (20, [], {}), (29, [], {}), (30, [], {"a": 1}), (31, [], {"a": 1}),
                                    (10 ** 6, [], {"a": 1})]:
            self.assertEqual(got.waiting(time), waiting)
            self.assertEqual(got.list_of("a", time), waiting)
            self.assertEqual(got.free(time), free)

    def test_events_at_the_ends_of_time(self):
        got = run({"a": []}, {0: come("x", "a"), 10 ** 6: ("place", "a")})
        self.assertEqual(got.waiting(0), ["x"])
        self.assertEqual(got.waiting(10 ** 6 - 1), ["x"])
        self.assertEqual(got.waiting(10 ** 6), [])
        self.assertEqual(got.letters(), [(10 ** 6, "x", "a")])

    def test_leave(self):
        got = run({"a": []}, {1: come("x", "a"), 2: come("y", "a"), 3: ("leave", "x"), 4: ("leave", "x"),
                              5: ("leave", "zoe"), 6: ("place", "a"), 7: ("leave", "y"), 8: ("place", "a")})
        self.assertEqual(got.letters(), [(6, "y", "a")])
        self.assertEqual([got.waiting(time) for time in range(1, 9)],
                         [["x"], ["x", "y"], ["y"], ["y"], ["y"], [], [], []])
        self.assertEqual(got.free(8), {"a": 1})

    def test_leave_ahead_of_the_come_does_nothing(self):
        got = run({"a": []}, {1: ("leave", "x"), 2: ("change", "x", ["a"]), 3: come("x", "a"), 4: ("place", "a")})
        self.assertEqual(got.letters(), [(4, "x", "a")])

    def test_withdraw(self):
        got = run({"a": [], "b": []}, {1: ("withdraw", "a"), 2: ("place", "a"), 3: ("place", "a"), 4: ("place", "b"),
                                       5: ("withdraw", "a"), 6: ("withdraw", "a"), 7: ("withdraw", "a"),
                                       8: come("x", "ab")})
        self.assertEqual([got.free(time) for time in range(1, 9)], [
            {}, {"a": 1}, {"a": 2}, {"a": 2, "b": 1}, {"a": 1, "b": 1}, {"b": 1}, {"b": 1}, {}])
        self.assertEqual(got.letters(), [(8, "x", "b")])

    def test_change_takes_a_place_at_once(self):
        got = run({"a": [], "b": []}, {1: ("place", "b"), 2: come("x", "a"), 3: ("change", "x", ("a", "b")),
                                       4: ("change", "x", ("a",)), 5: ("place", "a")})
        self.assertEqual(got.letters(), [(3, "x", "b")])
        self.assertEqual(got.free(5), {"a": 1})

    def test_change_has_a_new_time_and_the_points_and_home_as_before(self):
        events = {1: come("x", "a", 3, "a"), 2: come("y", "a", 3, "a"), 3: come("z", "a", 2, None),
                  4: ("change", "x", ("b", "a"))}
        for words, order in [([], ["y", "z", "x"]), (["early"], ["y", "z", "x"]), (["late"], ["x", "z", "y"]),
                             (["points"], ["y", "x", "z"]), (["few"], ["z", "y", "x"]), (["home"], ["y", "x", "z"]),
                             (["home", "late"], ["x", "y", "z"])]:
            got = run({"a": words, "b": []}, events)
            self.assertEqual(got.waiting(4), ["y", "z", "x"])
            self.assertEqual(got.list_of("a", 4), order, words)
            self.assertEqual(got.list_of("b", 4), ["x"])
            self.assertEqual(got.list_of("b", 3), [])

    def test_change_of_nobody(self):
        got = run({"a": []}, {1: ("place", "a"), 2: come("x", "a"), 3: ("change", "x", ("a",)),
                              4: ("change", "zoe", ("a",)), 5: ("place", "a")})
        self.assertEqual(got.letters(), [(2, "x", "a")])
        self.assertEqual(got.waiting(5), [])
        self.assertEqual(got.free(5), {"a": 1})

    def test_change_to_no_wishes(self):
        got = run({"a": []}, {1: come("x", "a"), 2: ("change", "x", ()), 3: ("place", "a")})
        self.assertEqual(got.waiting(3), ["x"])
        self.assertEqual(got.list_of("a", 3), [])
        self.assertEqual(got.free(3), {"a": 1})


class RanksTest(unittest.TestCase):

    EVENTS = {1: come("u", "a", 5, "b"), 2: come("v", "a", 7, "a"), 3: come("w", "a", 5, "a"), 4: come("x", "a", 0),
              5: come("y", "a", 7, None)}

    def order(self, words):
        return "".join(run({"a": words, "b": []}, self.EVENTS).list_of("a", 5))

    def test_each_word_and_ties(self):
        for words, order in [
            ([], "uvwxy"), (["early"], "uvwxy"), (["late"], "yxwvu"), (["points"], "vyuwx"), (["few"], "xuwvy"),
            (["home"], "vwuxy"), (["points", "home"], "vywux"), (["points", "late"], "yvwux"),
            (["few", "late"], "xwuyv"), (["few", "home"], "xwuvy"), (["home", "points"], "vwyux"),
            (["home", "few"], "wvxuy"), (["home", "late"], "wvyxu"), (["home", "points", "late"], "vwyux"),
            (["home", "early", "points"], "vwuxy"), (["late", "points"], "yxwvu"), (["points", "few"], "vyuwx"),
            (["few", "home", "late"], "xwuvy"), (["points", "home", "late"], "vywux"),
        ]:
            self.assertEqual(self.order(words), order, words)

    def test_places_go_by_the_rank_one_by_one(self):
        for words in [[], ["late"], ["points"], ["few", "late"], ["home", "few"]]:
            order = self.order(words)
            events = dict(self.EVENTS)
            events.update({10 + number: ("place", "a") for number in range(5)})
            letters = run({"a": words, "b": []}, events).letters()
            self.assertEqual(letters, [(10 + number, name, "a") for number, name in enumerate(order)])

    def test_home_is_told_by_the_kind_itself(self):
        events = {1: come("x", "ab", 0, "a"), 2: come("y", "ab", 0, "b")}
        got = run({"a": ["home"], "b": ["home"]}, events)
        self.assertEqual(got.list_of("a", 2), ["x", "y"])
        self.assertEqual(got.list_of("b", 2), ["y", "x"])

    def test_letting_alone_counts(self):
        got = run({"a": [], "b": []}, {1: come("x", "b"), 2: come("y", "ba"), 3: come("z", "")})
        self.assertEqual(got.list_of("a", 3), ["y"])
        self.assertEqual(got.list_of("b", 3), ["x", "y"])


class GatheredTest(unittest.TestCase):

    def test_nobody_is_placed_amid_gathered_lists(self):
        got = run({"a": []}, {1: ("place", "a"), 2: ("gather",), 3: come("x", "a"), 4: ("place", "a"), 5: come("y", "a"),
                              6: ("change", "x", ("a",)), 9: ("leave", "nobody")})
        self.assertEqual(got.letters(), [])
        self.assertEqual(got.waiting(9), ["y", "x"])
        self.assertEqual(got.free(9), {"a": 2})

    def test_leaves_withdraws_and_changes_amid(self):
        got = run({"a": [], "b": []}, {
            1: ("gather",), 2: come("x", "a"), 3: come("y", "a"), 4: ("place", "a"), 5: ("place", "a"),
            6: ("leave", "x"), 7: ("withdraw", "a"), 8: come("z", "a"), 9: ("change", "y", ("b", "a")), 10: ("round",)})
        self.assertEqual(got.letters(), [(10, "z", "a")])
        self.assertEqual(got.waiting(9), ["z", "y"])
        self.assertEqual(got.waiting(10), ["y"])
        self.assertEqual(got.free(6), {"a": 2})
        self.assertEqual(got.free(10), {})

    def test_all_meet_also_from_before(self):
        got = run({"a": ["points"], "b": []}, {
            1: come("x", "a", 1), 2: ("place", "b"), 3: ("gather",), 4: come("y", "ab", 2), 5: ("place", "a"),
            6: ("round",)})
        self.assertEqual(got.letters(), [(6, "y", "a")])
        self.assertEqual(got.waiting(6), ["x"])
        self.assertEqual(got.free(6), {"b": 1})

    def test_placed_again_behind_the_round(self):
        got = run({"a": []}, {1: ("gather",), 2: ("place", "a"), 3: ("place", "a"), 4: come("x", "a"), 5: ("round",),
                              6: come("y", "a"), 7: come("z", "a"), 8: ("place", "a")})
        self.assertEqual(got.letters(), [(5, "x", "a"), (6, "y", "a"), (8, "z", "a")])

    def test_gather_amid_gathered_lists_does_nothing(self):
        got = run({"a": []}, {1: ("gather",), 2: ("gather",), 3: come("x", "a"), 4: ("place", "a"), 5: ("round",),
                              6: ("place", "a"), 7: come("y", "a")})
        self.assertEqual(got.letters(), [(5, "x", "a"), (7, "y", "a")])

    def test_round_without_does_nothing(self):
        got = run({"a": []}, {1: ("round",), 2: come("x", "a"), 3: ("round",), 4: ("place", "a"), 5: ("round",)})
        self.assertEqual(got.letters(), [(4, "x", "a")])

    def test_letters_of_a_round_ascend(self):
        got = run({"a": [], "b": []}, {1: ("gather",), 2: come("z", "a"), 3: come("m", "b"), 4: come("a", "ab"),
                                       5: ("place", "b"), 6: ("place", "b"), 7: ("place", "a"), 8: ("round",)})
        self.assertEqual(got.letters(), [(8, "a", "b"), (8, "m", "b"), (8, "z", "a")])

    def test_best_for_people_and_not_for_kinds(self):
        got = run(TWO, {1: ("gather",), 2: come("x", "ab", 1), 3: come("y", "ba", 2), 4: ("place", "a"),
                        5: ("place", "b"), 6: ("round",)})
        self.assertEqual(got.letters(), [(6, "x", "a"), (6, "y", "b")])

    def test_refused_and_refusing_in_turn(self):
        got = run({"a": ["points"], "b": ["points"], "c": ["points"]}, {
            1: ("gather",), 2: come("x", "ab", 1), 3: come("y", "abc", 2), 4: come("z", "bac", 3), 5: come("w", "a", 9),
            6: ("place", "a"), 7: ("place", "b"), 8: ("place", "c"), 9: ("round",)})
        self.assertEqual(got.letters(), [(9, "w", "a"), (9, "y", "c"), (9, "z", "b")])
        self.assertEqual(got.waiting(9), ["x"])

    def test_times_of_a_change_count_in_the_round(self):
        events = {1: ("gather",), 2: come("x", "a"), 3: come("y", "a"), 4: ("change", "x", ("a",)), 5: ("place", "a"),
                  6: ("round",)}
        self.assertEqual(run({"a": []}, events).letters(), [(6, "y", "a")])
        self.assertEqual(run({"a": ["late"]}, events).letters(), [(6, "x", "a")])

    def test_a_big_round(self):
        kinds = "abcdef"
        events = {0: ("gather",), 100: ("round",)}
        for number in range(20):
            row = kinds[number % 6:] + kinds[:number % 6]
            events[1 + number] = come("p" + str(number), row, number)
            events[50 + number] = ("place", kinds[number % 5])
        got = run({kind: ["points"] for kind in kinds}, events)
        self.assertEqual(len(got.letters()), 20)
        self.assertEqual(got.waiting(100), [])

    def test_rounds_of_all_small_lists(self):
        people = [come("x", row, 1, home) for row in ["ab", "ba", "a"] for home in ["a", "b"]]
        others = [come("y", row, 1) for row in ["ab", "ba", "b"]] + [come("y", "ab", 2), come("y", "ba", 0, "a")]
        third = [come("z", "ab", 2, "b"), come("z", "ba", 1), come("z", "b", 0, "b")]
        for ranks in [TWO, {"a": ["home"], "b": ["late"]}, {"a": ["few"], "b": ["points", "home"]}]:
            for one in people:
                for two in others:
                    for three in third:
                        for places in ["a", "b", "ab", "aab"]:
                            events = {0: ("gather",), 1: one, 2: two, 3: three, 90: ("round",)}
                            events.update({10 + at: ("place", kind) for at, kind in enumerate(places)})
                            self.assertEqual(run(ranks, events).letters(), Naive(ranks, events).letters)


class QuestionsTest(unittest.TestCase):

    def setUp(self):
        self.course = Course(Office({"a": [], "b": []}), {1: come("x", "a"), 2: come("y", "b"), 3: ("place", "a"),
                                                          5: ("leave", "zoe"), 6: ("change", "max", ("a",))})
        self.run = run_of(self.course)

    def test_whole(self):
        self.assertIs(self.run.whole, self.course)
        self.assertEqual(run_of(course=self.course), self.run)

    def test_letter_of(self):
        self.assertEqual(self.run.letter_of("x"), (3, "x", "a"))
        self.assertIsNone(self.run.letter_of(name="y"))
        for thing in odd_objects() + ["zoe", "max", "a", "come", ["x"], ("x",), 1, (3, "x", "a")]:
            with self.assertRaises(NoPerson) as caught:
                self.run.letter_of(thing)
            self.assertIs(caught.exception.name, thing)

    def test_bad_times(self):
        for time in odd_objects() + [-1, 10 ** 6 + 1, "3", [3], (3,), True, False, None]:
            for ask in [self.run.waiting, self.run.free, lambda time: self.run.list_of("a", time)]:
                with self.assertRaises(BadTime) as caught:
                    ask(time)
                self.assertIs(caught.exception.time, time)
        for time in [0, 10 ** 6]:
            self.run.waiting(time=time)
            self.run.free(time=time)
            self.run.list_of(kind="a", time=time)

    def test_bad_kinds_ahead_of_bad_times(self):
        for kind in odd_objects() + ["c", "x", ["a"], ("a",), 0]:
            for time in [3, None, -1, True]:
                with self.assertRaises(BadKind) as caught:
                    self.run.list_of(kind, time)
                self.assertIs(caught.exception.kind, kind)

    def test_equal(self):
        same = run_of(Course(Office({"b": [], "a": ()}), self.course.events()))
        self.assertTrue(self.run == same)
        self.assertFalse(self.run != same)
        for other in [Course(Office({"a": ["late"], "b": []}), self.course.events()), Course(self.course.office, {}),
                      self.course.with_truths([("strike", 5)])]:
            self.assertFalse(self.run == run_of(other))
            self.assertTrue(self.run != run_of(other))
        for thing in odd_objects() + [self.course, self.run.letters()]:
            self.assertFalse(self.run == thing)
            self.assertFalse(thing == self.run)

    def test_what_is_returned_may_be_changed(self):
        letters, waiting, free = self.run.letters(), self.run.waiting(2), self.run.free(3)
        listed = self.run.list_of("a", 2)
        letters.clear()
        waiting.append("q")
        free["b"] = 5
        listed.append("q")
        self.assertEqual(self.run.letters(), [(3, "x", "a")])
        self.assertEqual(self.run.waiting(2), ["x", "y"])
        self.assertEqual(self.run.free(3), {})
        self.assertEqual(self.run.list_of("a", 2), ["x"])
        got = run({"a": []}, {1: ("place", "a")})
        got.free(1)["a"] = 7
        got.free(1).clear()
        self.assertEqual(got.free(1), {"a": 1})

    def test_the_kinds_of_what_is_returned(self):
        self.assertIsInstance(self.run.letters(), list)
        self.assertIsInstance(self.run.letters()[0], tuple)
        self.assertIsInstance(self.run.waiting(2), list)
        self.assertIsInstance(self.run.list_of("a", 2), list)
        self.assertIsInstance(self.run.free(2), dict)
        self.assertIsInstance(self.run.letter_of("x"), tuple)

    def test_the_course_stays(self):
        before = self.course.events()
        run_of(self.course)
        self.assertEqual(self.course.events(), before)


class AgainstTheOracleTest(unittest.TestCase):

    def check(self, ranks, events, last):
        got, wanted = run(ranks, events), Naive(ranks, events)
        self.assertEqual(got.letters(), wanted.letters, (ranks, events))
        for time in range(last + 2):
            self.assertEqual(got.waiting(time), wanted.waiting(time), (ranks, events, time))
            self.assertEqual(list(got.free(time).items()), list(wanted.free(time).items()), (ranks, events, time))
            for kind in ranks:
                self.assertEqual(got.list_of(kind, time), wanted.list_of(kind, time))
            self.check_fact(wanted, time)
        for name in [event[1] for event in events.values() if event[0] == "come"]:
            letters = [letter for letter in wanted.letters if letter[1] == name]
            self.assertLessEqual(len(letters), 1)
            self.assertEqual(got.letter_of(name), letters[0] if letters else None)

    def check_fact(self, wanted, time):
        """Whenever lists are not gathered, nobody waits who lets a kind with a free place."""
        people, places = wanted.behind(time)
        if not wanted.gathered_behind(time):
            self.assertFalse([one for one in people for kind in one["wishes"] if kind in places])

    def test_all_small_courses(self):
        for ranks in [TWO, {"a": ["home"], "b": ["late"]}]:
            for row in rows(SMALL, 3):
                self.check(ranks, timed(row), 5)

    def test_drawn_courses(self):
        draw = Draw(3)
        for number in range(1200):
            ranks = ALL_RANKS[number % 4]
            events = draw.events(ranks, draw.rng.randint(4, 14))
            self.check(ranks, events, max(events))

    def test_drawn_rounds(self):
        draw = Draw(4)
        many = 0
        for _ in range(300):
            events = {0: ("gather",), 90: ("round",)}
            for number in range(draw.rng.randint(2, 5)):
                events[1 + number] = draw.come(MIXED, "p" + str(number))
            for number in range(draw.rng.randint(1, 4)):
                events[20 + number] = ("place", draw.rng.choice("abc"))
            naive = Naive(MIXED, events)
            people, places = naive.behind(89)
            many += len(stable_ones(MIXED, people, places)) > 1
            given = best_round(MIXED, people, places)
            letters = sorted((90, one["name"], kind) for one, kind in zip(people, given) if kind)
            self.assertEqual(run(MIXED, events).letters(), letters)
        self.assertGreater(many, 5)


if __name__ == "__main__":
    unittest.main()
