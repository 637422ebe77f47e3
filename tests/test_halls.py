"""[10.1], [10.2]: halls, rows and ends."""

import unittest

from halls_told import DrawRows, all_halls, is_plain_hall, naive_end, told_end
from oracle import Naive
from samples import ALL_RANKS, TWO, Draw, odd_objects
from seatroads.alike import alike, needless, parting, swaps, worse_behind
from seatroads.courses import Course
from seatroads.errors import BadHall, BadRow, BadTime, NoPerson
from seatroads.halls import End, end, hall_of, is_hall
from seatroads.offices import Office
from seatroads.runs import run_of

OFFICE = Office(TWO)
ANN = ("ann", ("a",), 1, None)
BOB = ("bob", ("a",), 2, "b")


def come(name, wishes, points=0, home=None):
    return ("come", name, tuple(wishes), points, home)


class IsHallTest(unittest.TestCase):

    def test_halls(self):
        for thing in [([], {}), ([ANN], {}), ([ANN, BOB], {"b": 2}), [(ANN, list(BOB)), {"b": 1}], ((), {"a": 1, "b": 9}),
                      ([["ann", ["b", "a"], 0, "a"]], {}), ([("ann", (), 10 ** 6, None)], {"a": 1})]:
            self.assertIs(is_hall(OFFICE, thing), True)
            self.assertIs(is_hall(office=OFFICE, thing=thing), True)

    def test_no_halls(self):
        wrong = odd_objects() + [
            ([],), ([], {}, {}), ([], []), ({}, {}), ({}, []), [[ANN], None], (None, {}), ("", {}),
            ([ANN, ANN], {}), ([ANN, ("ann", ("b",), 2, None)], {}), ([ANN], {"a": 1}), ([ANN, BOB], {"b": 1, "a": 1}),
            ([], {"a": 0}), ([], {"a": -1}), ([], {"a": True}), ([], {"a": None}), ([], {"c": 1}), ([], {None: 1}),
            ([], {1: 1}), ([("ann", ("a",), 1)], {}), ([("ann", ("a",), 1, None, 3)], {}), ([("Ann", ("a",), 1, None)], {}),
            ([("ann", ("c",), 1, None)], {}), ([("ann", ("a", "a"), 1, None)], {}), ([("ann", "a", 1, None)], {}),
            ([("ann", ("a",), -1, None)], {}), ([("ann", ("a",), True, None)], {}), ([("ann", ("a",), 1, "c")], {}),
            ([None], {}), ([ANN, None], {}), (ANN, {}), ([("come",) + ANN], {})]
        for thing in wrong:
            self.assertIs(is_hall(OFFICE, thing), False, thing)

    def test_an_office_without_kinds(self):
        bare = Office({})
        self.assertIs(is_hall(bare, ([("ann", (), 1, None)], {})), True)
        self.assertIs(is_hall(bare, ([ANN], {})), False)
        self.assertIs(is_hall(bare, ([], {"a": 1})), False)

    def test_just_such_halls_come_of_plain_courses(self):
        for ranks in ALL_RANKS:
            draw = DrawRows(160)
            for _ in range(60):
                hall = draw.hall(sorted(ranks))
                self.assertIs(is_hall(Office(ranks), hall), True)
                self.assertTrue(is_plain_hall(ranks, hall))
        for hall in all_halls(["a", "b"], [0, 1], [None, "a"], 2, 2):
            self.assertTrue(is_hall(OFFICE, hall) and is_plain_hall(TWO, hall))


class HallOfTest(unittest.TestCase):

    def test_told(self):
        course = Course(OFFICE, {1: ["come", "ann", ["a"], 1, None], 2: ("come", "bob", ("a",), 2, "b"), 3: ("place", "b"),
                                 4: ("place", "b"), 5: ("change", "ann", ["a"])})
        run = run_of(course)
        self.assertEqual(hall_of(run, 4), ([ANN, BOB], {"b": 2}))
        self.assertEqual(hall_of(run=run, time=10 ** 6), ([BOB, ANN], {"b": 2}))
        self.assertEqual(hall_of(run, 0), ([], {}))
        told = hall_of(run, 2)
        self.assertIsInstance(told, tuple)
        self.assertIsInstance(told[0], list)
        self.assertIsInstance(told[0][0], tuple)
        self.assertIsInstance(told[0][0][1], tuple)

    def test_free_places_ascend(self):
        course = Course(Office({"c": [], "a": [], "b": []}), {1: ("place", "c"), 2: ("place", "a"), 3: ("place", "b")})
        self.assertEqual(list(hall_of(run_of(course), 3)[1].items()), [("a", 1), ("b", 1), ("c", 1)])

    def test_bad_times(self):
        run = run_of(Course(OFFICE, {1: ("place", "a")}))
        for thing in odd_objects() + ["1", [1], -1, 10 ** 6 + 1]:
            with self.assertRaises(BadTime) as caught:
                hall_of(run, thing)
            self.assertIs(caught.exception.time, thing)

    def test_times_within_gathered_lists(self):
        events = {1: ("round",), 3: ("gather",), 4: come("x", "a"), 5: ("gather",), 6: ("place", "a"), 8: ("round",),
                  9: ("place", "b"), 12: ("gather",)}
        run = run_of(Course(OFFICE, events))
        for time in range(15):
            if 3 <= time < 8 or time >= 12:
                with self.assertRaises(BadTime) as caught:
                    hall_of(run, time)
                self.assertEqual(caught.exception.time, time)
            else:
                self.assertEqual(hall_of(run, time), ([], {"b": 1} if time >= 9 else {}))
        with self.assertRaises(BadTime):
            hall_of(run, 10 ** 6)

    def test_against_a_going_of_its_own(self):
        draw = Draw(161)
        inside = 0
        for number in range(80):
            ranks = ALL_RANKS[number % len(ALL_RANKS)]
            events = draw.events(ranks, 12)
            naive, run = Naive(ranks, events), run_of(Course(Office(ranks), events))
            for time in range(27):
                if naive.gathered_behind(time):
                    inside += 1
                    with self.assertRaises(BadTime):
                        hall_of(run, time)
                    continue
                people = sorted(naive.behind(time)[0], key=lambda one: one["time"])
                wanted = [(one["name"], tuple(one["wishes"]), one["points"], one["home"]) for one in people]
                found = hall_of(run, time)
                self.assertEqual(found, (wanted, naive.free(time)))
                self.assertIs(is_hall(run.whole.office, found), True)
        self.assertGreater(inside, 100)


class EndTest(unittest.TestCase):

    def test_told(self):
        hall = ([ANN, BOB], {"b": 2})
        found = end(OFFICE, hall, [("place", "a"), come("x", "ab"), come("y", "a"), ("leave", "ann"), ("place", "b")])
        self.assertIsInstance(found, End)
        self.assertEqual(found.got, {"bob": "a", "x": "b"})
        self.assertEqual(list(found.got), ["bob", "x"])
        self.assertEqual(found.waits, ["y"])
        self.assertEqual(found.rooms, {"b": 2})
        same = end(office=OFFICE, hall=[[list(ANN), list(BOB)], {"b": 2}],
                   row=(["place", "a"], ["come", "x", ["a", "b"], 0, None], come("y", "a"), ("leave", "ann"),
                        ("place", "b")))
        self.assertIs(found == same, True)

    def test_nothing(self):
        found = end(OFFICE, ([], {}), [])
        self.assertEqual((found.got, found.waits, found.rooms), ({}, [], {}))
        self.assertEqual(found, end(Office({}), ((), {}), ()))

    def test_all_of_the_hall_came_ahead_of_the_row(self):
        office = Office({"a": ["late"], "b": ["early"]})
        hall = ([("h", ("a", "b"), 0, None)], {})
        self.assertEqual(end(office, hall, [come("x", "ab"), ("place", "a")]).got, {"x": "a"})
        self.assertEqual(end(office, hall, [come("x", "ab"), ("place", "b")]).got, {"h": "b"})

    def test_row_events_can_name_people_of_the_hall(self):
        hall = ([ANN, BOB], {"b": 1})
        self.assertEqual(end(OFFICE, hall, [("change", "ann", ("b", "a"))]).got, {"ann": "b"})
        self.assertEqual(end(OFFICE, hall, [("change", "ann", ["a"])]).waits, ["bob", "ann"])
        self.assertEqual(end(OFFICE, hall, [("leave", "ann"), ("withdraw", "b"), ("withdraw", "b")]).rooms, {})

    def test_rooms_ascend(self):
        hall = ([], {"b": 1})
        self.assertEqual(list(end(OFFICE, hall, [("place", "a")]).rooms), ["a", "b"])

    def test_equality(self):
        row = [come("x", "a"), come("y", "b"), ("place", "a")]
        found = end(OFFICE, ([], {}), row)
        self.assertIs(found == end(OFFICE, ([], {}), [come("x", "a", 7), ("place", "a"), come("y", "b")]), True)
        for other in [end(OFFICE, ([], {}), row[:2]), end(OFFICE, ([], {}), row + [("leave", "y")]),
                      end(OFFICE, ([], {"a": 1}), row), end(OFFICE, ([], {}), row[1:])] + odd_objects():
            self.assertIs(found == other, False)
            self.assertIs(other == found, False)

    def test_ends_are_unlike_by_who_got_which_kind_alone(self):
        row = [("place", "a"), ("place", "b"), come("x", "ab"), come("y", "ba")]
        one, other = [end(OFFICE, ([], {}), told) for told in (row, row[:2] + [come("y", "ab"), come("x", "ba")])]
        self.assertEqual((one.waits, one.rooms), (other.waits, other.rooms))
        self.assertIs(one == other, False)

    def test_against_a_going_of_its_own(self):
        draw = DrawRows(162)
        for number in range(400):
            ranks = draw.ranks(1 + number % 3)
            kinds = sorted(ranks)
            hall, row = draw.hall(kinds, 8, 8), draw.row(kinds)
            if number % 2:
                row += [("leave", "h0"), ("change", "h1", draw.wishes(kinds)), ("withdraw", kinds[0]), ("place", kinds[-1])]
            found = end(Office(ranks), hall, row)
            self.assertEqual(told_end(found), naive_end(ranks, hall, row))
            self.assertEqual(list(found.got), sorted(found.got))
            self.assertEqual(list(found.rooms), sorted(found.rooms))

    def test_bad_halls(self):
        for thing in odd_objects() + [([ANN, ANN], {}), ([ANN], {"a": 1}), ([], {"a": 0}), ([], {}, {})]:
            with self.assertRaises(BadHall) as caught:
                end(OFFICE, thing, [("place", "a")])
            self.assertIs(caught.exception.hall, thing)

    def test_who_waits_cannot_come(self):
        hall = ([ANN, BOB], {})
        for row in ([come("bob", "a")], [("leave", "bob"), ("place", "a"), come("bob", "b")]):
            with self.assertRaises(BadHall) as caught:
                end(OFFICE, hall, row)
            self.assertIs(caught.exception.hall, hall)

    def test_bad_rows_are_ahead_of_bad_halls(self):
        with self.assertRaises(BadRow) as caught:
            end(OFFICE, None, [("place", "a"), ("gather",)])
        self.assertEqual(caught.exception.index, 1)

    def test_what_is_passed_stays(self):
        hall, row = ([["ann", ["a"], 1, None]], {"b": 1}), [["come", "x", ["b"], 0, None], ["place", "a"]]
        found = end(OFFICE, hall, row)
        self.assertEqual((hall, row), (([["ann", ["a"], 1, None]], {"b": 1}),
                                       [["come", "x", ["b"], 0, None], ["place", "a"]]))
        hall[0].clear()
        row.clear()
        self.assertEqual(told_end(found), ({"ann": "a", "x": "b"}, [], {}))


class BadRowsTest(unittest.TestCase):
    """The errors of rows in all functions that get rows."""

    def calls(self, row):
        good = [("place", "a")]
        return [lambda: end(OFFICE, None, row), lambda: alike(OFFICE, row, None), lambda: alike(OFFICE, good, row),
                lambda: parting(OFFICE, row, None), lambda: parting(OFFICE, good, row),
                lambda: worse_behind(OFFICE, row, None, None), lambda: worse_behind(OFFICE, good, row, None),
                lambda: swaps(OFFICE, row), lambda: needless(OFFICE, row)]

    def check(self, row, index):
        for call in self.calls(row):
            with self.assertRaises(BadRow) as caught:
                call()
            self.assertEqual(caught.exception.index, index)

    def test_no_lists(self):
        for thing in [None, True, 3, "", "place", {}, {0: ("place", "a")}, OFFICE, run_of(Course(OFFICE, {}))]:
            self.check(thing, 0)

    def test_no_events(self):
        for thing in odd_objects() + [("gather",), ("round",), ("place", "c"), ("back", "x"), ("come", "x", ("a",), 0),
                                      ("come", "x", ("c",), 0, None), ["leave"], ("change", "x"), "gather"]:
            self.check([come("x", "a"), thing, None], 1)

    def test_nobody_comes_twice(self):
        self.check([come("x", "a"), ("leave", "x"), come("x", "b"), None], 2)
        self.check([None, come("x", "a"), come("x", "a")], 0)

    def test_the_first_row_is_asked_first(self):
        for function in (alike, parting, lambda office, one, other: worse_behind(office, one, other, None)):
            with self.assertRaises(BadRow) as caught:
                function(OFFICE, [("place", "a"), ("place", "b"), None], [None])
            self.assertEqual(caught.exception.index, 2)

    def test_ahead_of_no_person(self):
        with self.assertRaises(BadRow):
            worse_behind(OFFICE, [come("x", "a")], [come("y", "a"), ("gather",)], "z")
        with self.assertRaises(NoPerson):
            worse_behind(OFFICE, [come("x", "a")], [come("y", "a")], "x")


if __name__ == "__main__":
    unittest.main()
