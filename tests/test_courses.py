"""[3.4], [4.1]: courses, and courses behind truths."""

import unittest

from oracle import all_heard
from samples import ALL_RANKS, Draw, odd_objects
from seatroads.courses import Course
from seatroads.errors import BadEvent, BadTruth
from seatroads.offices import Office

OFFICE = Office({"red": [], "blue": []})
ANN = ("come", "ann", ("red",), 0, None)
BOB = ("come", "bob", ("blue", "red"), 3, "red")


class CourseTest(unittest.TestCase):

    def bad(self, events):
        with self.assertRaises(BadEvent) as caught:
            Course(OFFICE, events)
        return caught.exception.time

    def test_events_ascend_in_tuples(self):
        course = Course(OFFICE, {9: ["place", "red"], 4: ["come", "ann", ["red", "blue"], 2, None], 5: ["gather"],
                                 10 ** 6: ("change", "ann", ["blue"]), 0: ("round",)})
        self.assertEqual(list(course.events().items()), [
            (0, ("round",)), (4, ("come", "ann", ("red", "blue"), 2, None)), (5, ("gather",)), (9, ("place", "red")),
            (10 ** 6, ("change", "ann", ("blue",)))])
        self.assertIsInstance(course.events(), dict)
        self.assertIs(course.office, OFFICE)

    def test_by_the_shown_names(self):
        self.assertEqual(Course(office=OFFICE, events={1: ANN}).with_truths(truths=[]), Course(OFFICE, {1: ANN}))

    def test_times(self):
        for time in [0, 1, 10 ** 6 - 1, 10 ** 6]:
            self.assertEqual(list(Course(OFFICE, {time: ("gather",)}).events()), [time])
        for time in [-1, 10 ** 6 + 1, True, False, None, "1", "", (1,), (), (None, "a"), 10 ** 20]:
            self.assertIs(self.bad({time: ("gather",)}), time)

    def test_no_event(self):
        for thing in odd_objects() + ["gather", ("place", "green"), ("come", "ann", "red", 0, None), ("put", 3, ANN)]:
            self.assertEqual(self.bad({3: thing}), 3)

    def test_no_dict(self):
        for thing in odd_objects() + [[(1, ANN)], "events"]:
            if not isinstance(thing, dict):
                self.assertIs(self.bad(thing), thing)

    def test_the_first_wrong_key_in_the_order_of_the_dict(self):
        self.assertEqual(self.bad({9: ("gather",), 7: None, 2: None, -1: ("gather",)}), 7)
        self.assertEqual(self.bad({9: ("gather",), -1: ("gather",), 2: None}), -1)
        self.assertIs(self.bad({9: ("gather",), True: ("gather",), 2: None}), True)
        self.assertIs(self.bad({"x": None, 1: None}), "x")
        self.assertEqual(self.bad({2: None, "x": None}), 2)

    def test_names_again(self):
        self.assertEqual(self.bad({1: ANN, 2: ANN}), 2)
        self.assertEqual(self.bad({2: ANN, 1: ANN}), 2)
        self.assertEqual(self.bad({8: BOB, 9: ANN, 3: ANN, 5: BOB, 7: ANN}), 7)
        self.assertEqual(self.bad({1: ANN, 6: ["come", "ann", [], 9, "blue"], 4: ("gather",)}), 6)

    def test_names_again_are_behind_wrong_keys(self):
        self.assertEqual(self.bad({1: ANN, 2: ANN, 9: ("nothing",)}), 9)
        self.assertEqual(self.bad({1: ANN, 2: ANN, None: ("gather",)}), None)

    def test_the_very_key_is_kept(self):
        time = 123456
        self.assertIs(self.bad({3: ANN, time: ANN}), time)

    def test_others_may_name_anybody_any_number_of_times(self):
        events = {1: ("leave", "ann"), 2: ANN, 3: ("leave", "ann"), 4: ("leave", "ann"), 5: ("change", "ann", []),
                  6: ("change", "ann", ["red"]), 7: ("change", "zoe", ()), 8: ("place", "red"), 9: ("place", "red")}
        self.assertEqual(len(Course(OFFICE, events)), 9)

    def test_len_and_in(self):
        course = Course(OFFICE, {1: ANN, 0: ("gather",), 30: BOB})
        self.assertEqual(len(course), 3)
        for time in [0, 1, 30]:
            self.assertIs(time in course, True)
        for thing in odd_objects() + [2, 29, 31, -1, "1", "ann", ANN, [1], (0,), 10 ** 6]:
            self.assertIs(thing in course, False)
        self.assertEqual(len(Course(OFFICE, {})), 0)
        self.assertIs(0 in Course(OFFICE, {}), False)

    def test_equal(self):
        course = Course(OFFICE, {1: ANN, 2: BOB})
        same = Course(Office({"blue": (), "red": []}), {2: list(BOB), 1: ["come", "ann", ["red"], 0, None]})
        self.assertTrue(course == same)
        self.assertFalse(course != same)
        for other in [Course(OFFICE, {1: ANN}), Course(OFFICE, {1: ANN, 3: BOB}), Course(OFFICE, {2: ANN, 1: BOB}),
                      Course(OFFICE, {1: ANN, 2: ("come", "bob", ("red", "blue"), 3, "red")}),
                      Course(OFFICE, {1: ANN, 2: BOB, 3: ("gather",)}),
                      Course(Office({"red": ["late"], "blue": []}), {1: ANN, 2: BOB}), Course(OFFICE, {})]:
            self.assertFalse(course == other)
            self.assertTrue(course != other)

    def test_equal_to_nothing_else(self):
        course = Course(OFFICE, {1: ANN})
        for thing in odd_objects() + [OFFICE, course.events(), 1]:
            self.assertFalse(course == thing)
            self.assertFalse(thing == course)

    def test_what_is_passed_stays_and_may_change_later(self):
        wishes = ["red", "blue"]
        come = ["come", "ann", wishes, 2, None]
        events = {5: come, 1: ["gather"]}
        course = Course(OFFICE, events)
        self.assertEqual(list(events.items()), [(5, ["come", "ann", ["red", "blue"], 2, None]), (1, ["gather"])])
        wishes.pop()
        come[1] = "bob"
        events[1].append("x")
        events[7] = None
        self.assertEqual(course.events(), {1: ("gather",), 5: ("come", "ann", ("red", "blue"), 2, None)})

    def test_what_is_returned_may_be_changed(self):
        course = Course(OFFICE, {5: ANN, 1: ("gather",)})
        told = course.events()
        told[9] = BOB
        del told[1]
        self.assertEqual(course.events(), {1: ("gather",), 5: ANN})
        self.assertEqual(len(course), 2)


class WithTruthsTest(unittest.TestCase):

    def setUp(self):
        self.course = Course(OFFICE, {1: ("place", "red"), 2: ANN, 5: ("gather",), 7: ("round",)})

    def bad(self, truths):
        with self.assertRaises(BadTruth) as caught:
            self.course.with_truths(truths)
        return caught.exception.index

    def test_none(self):
        self.assertEqual(self.course.with_truths([]), self.course)
        self.assertEqual(self.course.with_truths(()), self.course)

    def test_each_form(self):
        for truth, events in [
            (("put", 4, BOB), {1: ("place", "red"), 2: ANN, 4: BOB, 5: ("gather",), 7: ("round",)}),
            (("strike", 2), {1: ("place", "red"), 5: ("gather",), 7: ("round",)}),
            (("strike", 5), {1: ("place", "red"), 2: ANN, 7: ("round",)}),
            (("alter", 2, BOB), {1: ("place", "red"), 2: BOB, 5: ("gather",), 7: ("round",)}),
            (["alter", 7, ["withdraw", "red"]], {1: ("place", "red"), 2: ANN, 5: ("gather",), 7: ("withdraw", "red")}),
            (["put", 0, ["come", "bob", ["blue"], 1, "red"]],
             {0: ("come", "bob", ("blue",), 1, "red"), 1: ("place", "red"), 2: ANN, 5: ("gather",), 7: ("round",)}),
        ]:
            for truths in ([truth], (truth,)):
                made = self.course.with_truths(truths)
                self.assertIsInstance(made, Course)
                self.assertEqual(list(made.events().items()), sorted(events.items()))
                self.assertEqual(made.office, OFFICE)

    def test_one_after_the_other(self):
        made = self.course.with_truths([("strike", 2), ("put", 2, BOB), ("put", 9, ANN), ("alter", 9, ("leave", "ann")),
                                        ("strike", 1), ("put", 3, ANN), ("strike", 9)])
        self.assertEqual(made.events(), {2: BOB, 3: ANN, 5: ("gather",), 7: ("round",)})

    def test_altered_to_the_same_name_or_the_same_event(self):
        self.assertEqual(self.course.with_truths([("alter", 2, ANN)]), self.course)
        other = ("come", "ann", ("blue",), 7, "red")
        self.assertEqual(self.course.with_truths([("alter", 2, other)]).events()[2], other)

    def test_no_list(self):
        for thing in odd_objects() + ["strike", {0: ("strike", 1)}]:
            if not isinstance(thing, (list, tuple)):
                self.assertEqual(self.bad(thing), 0)

    def test_no_truth(self):
        for thing in odd_objects() + ["strike", ("strike",), ("strike", "2"), ("put", 4), ("put", 4, None),
                                      ("put", 4, ("place", "green")), ANN, ("alter", 2, ("come", "ann"))]:
            self.assertEqual(self.bad([thing]), 0)
            self.assertEqual(self.bad([("strike", 1), thing, None]), 1)

    def test_times_with_and_without_events(self):
        for time in [1, 2, 5, 7]:
            self.assertEqual(self.bad([("put", time, ("place", "red"))]), 0)
        for time in [0, 3, 6, 8, 10 ** 6]:
            self.assertEqual(self.bad([("strike", time)]), 0)
            self.assertEqual(self.bad([("alter", time, ("place", "red"))]), 0)
            self.assertEqual(len(self.course.with_truths([("put", time, ("place", "red"))])), 5)

    def test_each_is_asked_behind_those_ahead(self):
        self.assertEqual(self.bad([("strike", 1), ("strike", 1)]), 1)
        self.assertEqual(self.bad([("put", 3, BOB), ("strike", 3), ("alter", 3, BOB)]), 2)
        self.assertEqual(self.bad([("put", 3, BOB), ("put", 3, BOB)]), 1)
        self.assertEqual(self.bad([("strike", 1), ("put", 1, ("gather",)), ("put", 1, ("gather",))]), 2)

    def test_names_told_twice(self):
        self.assertEqual(self.bad([("put", 3, ANN)]), 0)
        self.assertEqual(self.bad([("put", 0, ANN)]), 0)
        self.assertEqual(self.bad([("alter", 1, ANN)]), 0)
        self.assertEqual(self.bad([("put", 3, BOB), ("alter", 2, BOB)]), 1)
        self.assertEqual(self.bad([("put", 3, BOB), ("put", 4, BOB)]), 1)
        self.assertEqual(self.bad([("put", 3, ANN), ("strike", 2)]), 0)
        self.assertEqual(self.bad([("strike", 2), ("put", 3, ANN), ("put", 2, ANN)]), 2)

    def test_several_wrong_ones(self):
        self.assertEqual(self.bad([("strike", 9), None]), 0)
        self.assertEqual(self.bad([("strike", 2), ("put", 5, BOB), None]), 1)
        self.assertEqual(self.bad([("strike", 2), None, ("put", 5, BOB)]), 1)

    def test_leaves_and_changes_may_name_anybody(self):
        made = self.course.with_truths([("put", 3, ("leave", "ann")), ("put", 4, ("change", "ann", ["red"]))])
        self.assertEqual(len(made), 6)

    def test_the_course_and_what_is_passed_stay(self):
        truths = [["put", 3, ["come", "bob", ["red"], 1, None]], ["strike", 1]]
        before = self.course.events()
        made = self.course.with_truths(truths)
        self.assertEqual(truths, [["put", 3, ["come", "bob", ["red"], 1, None]], ["strike", 1]])
        truths[0][2][2].append("blue")
        truths[1][1] = 2
        self.assertEqual(made.events()[3], ("come", "bob", ("red",), 1, None))
        self.assertEqual(self.course.events(), before)
        self.bad([("strike", 1), ("strike", 1)])
        self.assertEqual(self.course.events(), before)

    def test_drawn(self):
        draw = Draw(11)
        for _ in range(300):
            ranks = draw.rng.choice(ALL_RANKS)
            events = draw.events(ranks, draw.rng.randint(0, 9))
            truths = draw.truths(ranks, events, draw.rng.randint(0, 8), moving=True)
            made = Course(Office(ranks), events).with_truths(truths)
            self.assertEqual(made, Course(Office(ranks), all_heard(events, truths)))


if __name__ == "__main__":
    unittest.main()
