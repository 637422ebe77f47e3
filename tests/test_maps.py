"""[4.7]: what one more comer or place would do."""

import unittest

from oracle import Naive, naive_token
from samples import ALL_RANKS, HOMES, SMALL, TWO, Draw, odd_objects, rows, timed
from seatroads.courses import Course
from seatroads.errors import BadKind, BadWishes
from seatroads.explained import map_of_person, map_of_place
from seatroads.offices import Office
from seatroads.roads import roads

LAST = 10 ** 6


def come(name, wishes, points=0, home=None):
    return ("come", name, tuple(wishes), points, home)


class MapsTest(unittest.TestCase):

    def setUp(self):
        self.course = Course(Office({"a": ["points"], "b": []}), {
            10: ("place", "a"), 20: come("x", "a", 5), 30: come("y", "a", 3), 40: ("place", "a")})

    def test_a_person(self):
        self.assertEqual(map_of_person(self.course, ["a"], None), [
            (0, 9, 0, LAST, ("waits", "y")),
            (11, 19, 0, LAST, ("waits", "y")),
            (21, 29, 0, 2, ("waits", "")), (21, 29, 3, LAST, ("waits", "y")),
            (31, 39, 0, 3, ("waits", "")), (31, 39, 4, LAST, ("waits", "y")),
            (41, LAST, 0, LAST, ("waits", ""))])

    def test_a_person_by_the_shown_names(self):
        self.assertEqual(map_of_person(course=self.course, wishes=("b",), home="a"), [
            (0, 9, 0, LAST, ("waits", "")), (11, 19, 0, LAST, ("waits", "")), (21, 29, 0, LAST, ("waits", "")),
            (31, 39, 0, LAST, ("waits", "")), (41, LAST, 0, LAST, ("waits", ""))])

    def test_a_place(self):
        self.assertEqual(map_of_place(self.course, "a"), [
            (0, 9, ("free", "a")), (11, 19, ("free", "a")), (21, 29, ("free", "a")), (31, 39, ("free", "a")),
            (41, LAST, ("free", "a"))])
        self.assertEqual(map_of_place(course=self.course, kind="b"), [
            (0, 9, ("free", "b")), (11, 19, ("free", "b")), (21, 29, ("free", "b")), (31, 39, ("free", "b")),
            (41, LAST, ("free", "b"))])

    def test_a_place_that_lets_somebody_go_on(self):
        course = Course(Office({"a": []}), {5: come("x", "a"), 6: come("y", "a"), 8: ("leave", "x")})
        self.assertEqual(map_of_place(course, "a"), [(0, 4, None), (7, 7, None), (9, LAST, ("waits", "y"))])

    def test_ends_of_time_and_no_room_between(self):
        course = Course(Office({"a": []}), {0: ("place", "a"), 1: ("place", "a"), 3: ("gather",), LAST: ("round",)})
        self.assertEqual(map_of_place(course, "a"), [(2, 2, ("free", "a")), (4, LAST - 1, ("free", "a"))])
        self.assertEqual(map_of_person(course, ["a"], None), [
            (2, 2, 0, LAST, ("free", "a")), (4, LAST - 1, 0, LAST, ("free", "a"))])
        course = Course(Office({"a": []}), {LAST - 1: ("place", "a"), 1: ("withdraw", "a")})
        self.assertEqual([row[:2] for row in map_of_place(course, "a")], [(0, 0), (2, LAST - 2), (LAST, LAST)])

    def test_nothing_and_no_kinds(self):
        self.assertEqual(map_of_person(Course(Office({}), {}), [], None), [(0, LAST, 0, LAST, ("waits", ""))])
        self.assertEqual(map_of_person(Course(Office({"a": []}), {}), ["a"], "a"), [(0, LAST, 0, LAST, ("waits", ""))])
        self.assertEqual(map_of_place(Course(Office({"a": []}), {}), "a"), [(0, LAST, ("free", "a"))])

    def test_ends_that_are_even(self):
        course = Course(Office({"a": []}), {5: ("place", "a"), 9: ("withdraw", "a"), 12: ("withdraw", "a")})
        self.assertEqual(map_of_person(course, ["a"], None), [
            (0, 4, 0, LAST, None), (6, 8, 0, LAST, None), (10, 11, 0, LAST, ("waits", "")),
            (13, LAST, 0, LAST, ("waits", ""))])
        self.assertEqual(map_of_place(course, "a"), [
            (0, 4, None), (6, 8, None), (10, 11, None), (13, LAST, ("free", "a"))])

    def test_points_at_the_ends(self):
        course = Course(Office({"a": ["points"]}), {1: come("x", "a", 0), 2: come("y", "a", LAST), 3: ("place", "a"),
                                                    4: ("place", "a")})
        self.assertEqual(map_of_person(course, ["a"], None), [
            (0, 0, 0, LAST, ("waits", "x")), (5, LAST, 0, LAST, ("waits", ""))])
        course = Course(Office({"a": ["few"]}), {10: come("x", "a", 0), 20: come("y", "a", LAST), 30: ("place", "a"),
                                                 40: ("place", "a")})
        self.assertEqual(map_of_person(course, ["a"], None), [
            (0, 9, 0, LAST, ("waits", "y")), (11, 19, 0, LAST, ("waits", "y")),
            (21, 29, 0, LAST - 1, ("waits", "y")), (21, 29, LAST, LAST, ("waits", "")),
            (31, 39, 0, LAST - 1, ("waits", "y")), (31, 39, LAST, LAST, ("waits", "")),
            (41, LAST, 0, LAST, ("waits", ""))])

    def test_a_stretch_of_one_number_of_points(self):
        course = Course(Office(TWO), {
            10: come("x", "a", 5), 20: come("y", "b", 5), 40: ("place", "a"), 50: ("place", "b")})
        self.assertEqual([row for row in map_of_person(course, ["a", "b"], None) if row[0] == 21], [
            (21, 39, 0, 4, ("waits", "y")), (21, 39, 5, 5, ("waits", "")), (21, 39, 6, LAST, ("waits", "x"))])

    def test_names_of_the_course_do_not_matter(self):
        events = {1: come("0", "a"), 2: ("leave", "1"), 3: ("change", "2", ("a",)), 4: come("3", "a"),
                  5: ("leave", "5"), 6: ("change", "4", ())}
        course = Course(Office({"a": []}), events)
        other = Course(Office({"a": []}), {
            time: event[:1] + ("n" + event[1],) + event[2:] for time, event in events.items()})
        wanted = [(first, last, low, high, end and (end[0], end[1] and "n" + end[1] if end[0] == "waits" else end[1]))
                  for first, last, low, high, end in map_of_person(course, ["a"], None)]
        self.assertEqual(map_of_person(other, ["a"], None), wanted)
        self.assertEqual({row[4] for row in wanted}, {("waits", "")})

    def test_bad_wishes_and_homes(self):
        for thing in [thing for thing in odd_objects() if thing not in ([], ())] + [
                "a", ["c"], ["a", "a"], ("a", "b", "a"), [None], [["a"]], True]:
            for home in (None, "a", "c", True, []):
                with self.assertRaises(BadWishes) as caught:
                    map_of_person(self.course, thing, home)
                self.assertIs(caught.exception.thing, thing)
        for home in [thing for thing in odd_objects() if thing is not None] + ["c", ["a"], ("a",), 0, False]:
            with self.assertRaises(BadKind) as caught:
                map_of_person(self.course, ["a"], home)
            self.assertIs(caught.exception.kind, home)

    def test_bad_kinds(self):
        for kind in odd_objects() + ["c", ["a"], ("a",), None, 0, True]:
            with self.assertRaises(BadKind) as caught:
                map_of_place(self.course, kind)
            self.assertIs(caught.exception.kind, kind)

    def test_what_is_passed_stays_and_what_is_returned_may_be_changed(self):
        wishes, events = ["b", "a"], self.course.events()
        made = map_of_person(self.course, wishes, None)
        again = map_of_person(self.course, wishes, None)
        self.assertEqual(wishes, ["b", "a"])
        self.assertEqual(self.course.events(), events)
        made.clear()
        map_of_place(self.course, "a").clear()
        self.assertEqual(map_of_person(self.course, wishes, None), again)
        self.assertEqual(len(map_of_place(self.course, "a")), 5)
        for row in again:
            self.assertIsInstance(row, tuple)


class AgainstRunsTest(unittest.TestCase):
    """Maps held against the runs themselves, below, at, between and above what they tell."""

    def stretches(self, events):
        marks = [-1] + sorted(events) + [LAST + 1]
        return [(low + 1, high - 1) for low, high in zip(marks, marks[1:]) if high - low > 1]

    def end(self, ranks, events, time, event):
        later = dict(events)
        later[time] = event
        one, other = Naive(ranks, events), Naive(ranks, later)
        token = naive_token(other, one, LAST) if event[0] == "come" else naive_token(one, other, LAST)
        return ("waits", "") if token == ("waits", "new") else token

    def check_person(self, ranks, events, wishes, home):
        course = Course(Office(ranks), events)
        made = map_of_person(course, wishes, home)
        self.assertEqual(made, sorted(made, key=lambda row: row[:4]))
        self.assertEqual(sorted({row[:2] for row in made}), self.stretches(events))
        for first, last in self.stretches(events):
            rows_there = [row for row in made if row[0] == first]
            self.assertEqual([row[2] for row in rows_there], [0] + [row[3] + 1 for row in rows_there[:-1]])
            self.assertEqual(rows_there[-1][3], LAST)
            for one, other in zip(rows_there, rows_there[1:]):
                self.assertNotEqual(one[4], other[4])
            told = sorted({event[3] for event in events.values() if event[0] == "come"})
            points = {0, 1, LAST} | {many + more for many in told for more in (-1, 0, 1) if many + more >= 0}
            points |= {row[2] for row in rows_there} | {row[3] for row in rows_there}
            for many in sorted(points):
                wanted = [row[4] for row in rows_there if row[2] <= many <= row[3]]
                for time in sorted({first, (first + last) // 2, last}):
                    token = self.end(ranks, events, time, ("come", "new", wishes, many, home))
                    self.assertEqual(wanted, [token], (ranks, events, time, many))
            if not any("few" in words for words in ranks.values()):
                self.check_more_points(rows_there)
        return made

    def check_more_points(self, rows_there):
        """Who with fewer points does not wait in the end does not with more."""
        waits = [row[4] == ("waits", "") for row in rows_there]
        self.assertEqual(waits, sorted(waits, reverse=True))

    def check_place(self, ranks, events, kind):
        made = map_of_place(Course(Office(ranks), events), kind)
        self.assertEqual([row[:2] for row in made], self.stretches(events))
        for first, last, end in made:
            for time in sorted({first, (first + last) // 2, last}):
                self.assertEqual(end, self.end(ranks, events, time, ("place", kind)))

    def test_small_courses_gone_through_whole(self):
        for ranks in (TWO, HOMES):
            for row in rows(SMALL, 2):
                self.check_person(ranks, timed(row), ("b", "a"), "a")
                self.check_place(ranks, timed(row), "a")

    def test_drawn_courses(self):
        draw = Draw(51)
        kinds_of_ends, most = set(), 0
        for number in range(150):
            ranks = ALL_RANKS[number % 4]
            events = draw.events(ranks, draw.rng.randint(3, 14))
            home = draw.rng.choice([None] + sorted(ranks))
            made = self.check_person(ranks, events, draw.wishes(ranks), home)
            kinds_of_ends |= {row[4] and row[4][:1] + (row[4][1] == "",) for row in made}
            most = max(most, max(len([row for row in made if row[0] == one[0]]) for one in made))
            for kind in ranks:
                self.check_place(ranks, events, kind)
        self.assertEqual(kinds_of_ends, {None, ("free", False), ("waits", False), ("waits", True)})
        self.assertGreater(most, 2)

    def test_ends_are_those_of_roads(self):
        draw = Draw(52)
        for number in range(60):
            ranks = ALL_RANKS[number % 4]
            course = Course(Office(ranks), draw.events(ranks, 9))
            wishes = draw.wishes(ranks)
            for first, last, low, high, end in map_of_person(course, wishes, None):
                for time, many in ((first, high), (last, low)):
                    road, = roads(course, [("put", time, ("come", "new", wishes, many, None))])
                    self.assertEqual(end, ("waits", "") if road.end() == ("waits", "new") else road.end())
            for first, last, end in map_of_place(course, sorted(ranks)[0]):
                for time in (first, last):
                    road, = roads(course, [("put", time, ("place", sorted(ranks)[0]))])
                    self.assertEqual(end, road.end())


if __name__ == "__main__":
    unittest.main()
