"""[10.3] to [10.5]: rows held against one another, whatever waits and stands free ahead of them."""

import unittest

from halls_told import DrawRows, all_halls, naive_end, size_of, told_end
from samples import TWO, odd_objects
from seatroads.alike import alike, needless, parting, swaps, worse_behind
from seatroads.errors import NoPerson
from seatroads.halls import end, is_hall
from seatroads.offices import Office

OFFICE = Office(TWO)


def come(name, wishes, points=0, home=None):
    return ("come", name, tuple(wishes), points, home)


def names_of(*rows):
    return {event[1] for row in rows for event in row if event[0] in ("come", "leave", "change")}


def unlike(ranks, hall, one, other):
    return naive_end(ranks, hall, one) != naive_end(ranks, hall, other)


def liking(wishes, end_told, name):
    """How little a person likes what they got."""
    kind = end_told[0].get(name)
    return list(wishes).index(kind) if kind in wishes else len(wishes)


def is_worse(ranks, hall, one, other, name):
    wishes = [event[2] for event in one if event[:2] == ("come", name)][0]
    return liking(wishes, naive_end(ranks, hall, one), name) > liking(wishes, naive_end(ranks, hall, other), name)


def halls_for(ranks, people, places):
    """All small halls, with points and homes only where a rank looks at them; rows have points from 0 to 3."""
    words = {word for row in ranks.values() for word in row}
    levels = [0, 1, 2, 3, 4] if words & {"points", "few"} else [0]
    homes = [None] + sorted(ranks) if "home" in words else [None]
    return list(all_halls(sorted(ranks), levels, homes, people, places))


def pairs_of_rows(seed, many, kinds):
    draw = DrawRows(seed)
    for _ in range(many):
        ranks = draw.ranks(kinds)
        one = draw.row(sorted(ranks))
        yield draw, ranks, one, draw.other(one, sorted(ranks))


class AlikeTest(unittest.TestCase):

    def check_hall(self, ranks, hall, one, other):
        """That it is a hall in which nobody of the rows stands."""
        self.assertIs(is_hall(Office(ranks), hall), True)
        self.assertIsInstance(hall, tuple)
        self.assertFalse(names_of(one, other) & {person[0] for person in hall[0]})
        for person in hall[0]:
            self.assertIsInstance(person, tuple)
            self.assertIsInstance(person[1], tuple)

    def test_behind_an_empty_hall(self):
        self.assertEqual(parting(OFFICE, [("place", "a")], [("place", "b")]), ([], {}))
        self.assertEqual(parting(office=OFFICE, one=[come("x", "a")], other=[]), ([], {}))
        self.assertIs(alike(office=OFFICE, one=[("place", "a")], other=[("place", "b")]), False)

    def test_rows_that_are_equal(self):
        row = [come("x", "ab"), ("place", "a"), ("change", "x", ("b",)), ("withdraw", "b")]
        told = [["come", "x", ["a", "b"], 0, None], ["place", "a"], ["change", "x", ["b"]], ["withdraw", "b"]]
        self.assertIsNone(parting(OFFICE, row, told))
        self.assertIs(alike(OFFICE, row, tuple(told)), True)
        self.assertIs(alike(Office({}), [], ()), True)

    def test_a_place_ahead_of_its_comer_or_behind(self):
        one, other = [come("x", "a", 1), ("place", "a")], [("place", "a"), come("x", "a", 1)]
        hall = parting(OFFICE, one, other)
        self.assertEqual(size_of(hall), 1)
        (name, wishes, points, home), = hall[0]
        self.assertTrue("a" in wishes and points < 1)
        # Nobody has less than no points, so everybody who waits is ahead of x.
        self.assertIs(alike(OFFICE, [come("x", "a"), ("place", "a")], [("place", "a"), come("x", "a")]), True)
        # Nobody has more points than there are, but the home of b does not look at them.
        most = [come("x", "b", 10 ** 6), ("place", "b")]
        self.assertIs(alike(Office({"b": ["few"]}), most, most[::-1]), True)

    def test_between_two_neighbouring_points_nobody_stands(self):
        # Only who has more points than x, and fewer than y, takes either place that comes first.
        ranks = {"a": ["points", "late"], "b": ["few", "late"]}
        for one, other, is_room in [(1, 3, True), (1, 2, False), (1, 1, False), (0, 9, True), (5, 7, True), (7, 5, False),
                                    (10 ** 6, 10 ** 6, False), (10 ** 6 - 2, 10 ** 6, True), (0, 0, False),
                                    (10 ** 6 - 1, 10 ** 6, False), (0, 10 ** 6, True)]:
            row = [come("x", "a", one), come("y", "b", other), ("place", "a"), ("place", "b")]
            hall = parting(Office(ranks), row, [row[0], row[1], row[3], row[2]])
            self.assertEqual(hall is not None, is_room, (one, other))
            if is_room:
                self.check_hall(ranks, hall, row, row)
                self.assertEqual((len(hall[0]), hall[1]), (1, {}))
                self.assertTrue(one < hall[0][0][2] < other)

    def test_two_free_places_of_a_kind_are_needed(self):
        # With none and with one x takes nothing that the last withdraw would not find gone.
        row = [come("x", "a"), ("leave", "x"), ("withdraw", "a")]
        other = [("withdraw", "a"), come("x", "a"), ("leave", "x")]
        hall = parting(OFFICE, row, other)
        self.assertEqual(hall, ([], {"a": 1}))
        one, other = [("withdraw", "a"), ("withdraw", "a")], [("withdraw", "a")]
        self.assertEqual(parting(OFFICE, one, other), ([], {"a": 2}))
        self.assertEqual(parting(OFFICE, one + other, one), ([], {"a": 3}))
        self.assertEqual(parting(OFFICE, one + one + other, one + one), ([], {"a": 5}))

    def test_one_free_place_is_fewer_than_two_people(self):
        for ranks, one, at, wanted in [
                ({"a": ["late"], "b": ["points", "late"]},
                 [("place", "b"), ("place", "b"), come("y", "ab", 1), come("x", "a")], 2, {"a": 1}),
                ({"a": ["points", "late"], "b": ["points"]},
                 [("place", "a"), come("x", "a", 1), come("y", "ab", 0, "a"), ("place", "a")], 1, {"b": 1})]:
            other = one[:at] + [one[at + 1], one[at]] + one[at + 2:]
            self.assertEqual(parting(Office(ranks), one, other), ([], wanted))
            two = [hall for hall in all_halls(sorted(ranks), [0, 1, 2, 3], [None], 2, 0)
                   if unlike(ranks, hall, one, other)]
            self.assertTrue(two)

    def test_by_what_people_of_the_hall_get_alone(self):
        # What is left of the rows' own people and of the places is the same.
        hall = parting(OFFICE, [("place", "a"), ("withdraw", "a")], [])
        self.assertEqual((len(hall[0]), hall[1]), (1, {}))
        one = [("place", "a"), ("place", "b"), ("withdraw", "a"), ("withdraw", "b")]
        hall = parting(OFFICE, one, [one[1], one[0], one[2], one[3]])
        self.assertEqual((len(hall[0]), sorted(hall[0][0][1]), hall[1]), (1, ["a", "b"], {}))
        self.assertTrue(unlike(TWO, hall, one, [one[1], one[0], one[2], one[3]]))

    def test_points_above_and_below_all_of_the_row(self):
        # Only who is ahead of x for a takes either place that comes first.
        for words, points, wanted in [(["points", "late"], 5, lambda told: told > 5), (["points", "late"], 10 ** 6, None),
                                      (["points", "late"], 10 ** 6 - 1, lambda told: told == 10 ** 6),
                                      (["few", "late"], 5, lambda told: told < 5), (["few", "late"], 0, None),
                                      (["few", "late"], 1, lambda told: told == 0)]:
            ranks = {"a": words, "b": []}
            row = [come("x", "a", points), come("y", "b"), ("place", "a"), ("place", "b")]
            hall = parting(Office(ranks), row, [row[0], row[1], row[3], row[2]])
            self.assertEqual(hall is None, wanted is None)
            if wanted is not None:
                self.check_hall(ranks, hall, row, row)
                self.assertTrue(len(hall[0]) == 1 and wanted(hall[0][0][2]))

    def test_names_of_the_rows_stand_in_no_hall(self):
        one = [come("0", "a", 1), ("place", "a"), ("leave", "1"), ("change", "2", ("a",))]
        hall = parting(OFFICE, one, [one[1], one[0], one[2], ("leave", "3")])
        self.assertEqual(len(hall[0]), 1)
        self.assertFalse({hall[0][0][0]} & {"0", "1", "2", "3"})
        self.check_hall(TWO, hall, one, [("leave", "3")])

    def test_tuples_and_lists_mean_the_same(self):
        one = [come("x", "a", 1), ("place", "a"), ("leave", "y")]
        other = [one[1], one[0]]
        hall = parting(OFFICE, one, other)
        for first, second in [(tuple(one), other), (one, tuple(other)), (tuple(one), tuple(other)),
                              ([list(event) for event in one], tuple(list(event) for event in other))]:
            self.assertEqual(parting(OFFICE, first, second), hall)
            self.assertEqual(worse_behind(OFFICE, first, second, "x"), worse_behind(OFFICE, one, other, "x"))
        self.assertEqual((swaps(OFFICE, tuple(one)), needless(OFFICE, tuple(one))),
                         (swaps(OFFICE, one), needless(OFFICE, one)))

    def test_against_all_small_halls(self):
        sizes, alikes = {}, 0
        for seed, many, kinds, people, places in [(163, 100, 1, 3, 2), (164, 80, 2, 2, 2), (165, 40, 3, 1, 2)]:
            for draw, ranks, one, other in pairs_of_rows(seed, many, kinds):
                office = Office(ranks)
                hall = parting(office, one, other)
                self.assertIs(alike(office, one, other), hall is None)
                if hall is not None:
                    self.check_hall(ranks, hall, one, other)
                    self.assertTrue(unlike(ranks, hall, one, other))
                size = 9 if hall is None else size_of(hall)
                for small in halls_for(ranks, people, places) if size > 0 else []:
                    if size_of(small) < size:
                        self.assertEqual(end(office, small, one), end(office, small, other), (ranks, one, other, small))
                alikes += hall is None
                sizes[size] = sizes.get(size, 0) + 1
        self.assertLessEqual({0, 1, 2, 9}, set(sizes))
        self.assertGreater(alikes, 50)

    def test_three_people_in_offices_of_two_kinds(self):
        some = 0
        for draw, ranks, one, other in pairs_of_rows(166, 60, 2):
            ranks = {"a": ["points"], "b": ["late", "few"]}
            hall = parting(Office(ranks), one, other)
            if hall is None or size_of(hall) > 2:
                some += 1
                for small in all_halls(["a", "b"], [0, 2, 4], [None], 3, 0):
                    self.assertFalse(unlike(ranks, small, one, other) and some % 4 == 0)
        self.assertGreater(some, 8)

    def test_against_drawn_halls(self):
        for draw, ranks, one, other in pairs_of_rows(167, 250, 3):
            hall = parting(Office(ranks), one, other)
            for _ in range(25 if hall is None else 5):
                drawn = draw.hall(sorted(ranks), 8, 8)
                if hall is None or size_of(drawn) < size_of(hall):
                    self.assertFalse(unlike(ranks, drawn, one, other), (ranks, one, other, drawn))

    def test_two_people_are_needed(self):
        ranks = {"a": ["points", "home", "early"]}
        one = [("place", "a"), come("y", "a", 3, "a"), come("z", "", 4, "a"), come("x", "a", 9), ("place", "a")]
        other = [one[0], one[1], one[3], one[2], one[4]]
        hall = parting(Office(ranks), one, other)
        self.assertEqual((len(hall[0]), hall[1]), (2, {}))
        self.assertTrue(unlike(ranks, hall, one, other))
        for small in all_halls(["a"], [0, 3, 4, 5, 9, 10], [None, "a"], 1, 2):
            if size_of(small) < 2:
                self.assertFalse(unlike(ranks, small, one, other))

    def test_who_waits_in_what_order(self):
        row = [come("x", ""), come("y", "")]
        self.assertEqual(parting(OFFICE, row, row[::-1]), ([], {}))
        leaving = row + [("leave", "y")]
        self.assertIs(alike(OFFICE, leaving, [row[1], row[0], leaving[2]]), True)


class NeverWorseTest(unittest.TestCase):

    def test_told(self):
        one, other = [come("x", "ab", 1), ("place", "a")], [come("x", "ab", 1), ("place", "b")]
        self.assertIsNone(worse_behind(OFFICE, one, other, "x") and None)
        self.assertEqual(worse_behind(office=OFFICE, one=other, other=one, name="x"), ([], {}))
        # Who waits for a with more points takes the one place, and x has none.
        people, free = worse_behind(OFFICE, one, other, "x")
        self.assertEqual((len(people), free), (1, {}))
        self.assertTrue(is_worse(TWO, (people, free), one, other, "x"))

    def test_kinds_that_are_not_wished_are_like_none(self):
        start = come("x", "a", 1)
        one, other = [start, ("change", "x", ("b",)), ("place", "b")], [start, ("change", "x", ("b",))]
        self.assertIsNone(worse_behind(OFFICE, one, other, "x"))
        self.assertIsNone(worse_behind(OFFICE, other, one, "x"))
        self.assertIs(alike(OFFICE, one, other), False)

    def test_no_person(self):
        one, other = [come("x", "a"), come("y", "a"), ("leave", "z")], [come("x", ["a"]), come("y", "ab"), ("leave", "z")]
        self.assertIsNone(worse_behind(OFFICE, one, other, "x"))
        for thing in odd_objects() + ["y", "z", "a", "w", ["x"], ("x",), {"x": 1}]:
            with self.assertRaises(NoPerson) as caught:
                worse_behind(OFFICE, one, other, thing)
            self.assertIs(caught.exception.name, thing)
        for row in ([], [come("x", "a", 1)], [come("x", "a", 0, "a")]):
            with self.assertRaises(NoPerson):
                worse_behind(OFFICE, [come("x", "a")], row, "x")
            with self.assertRaises(NoPerson):
                worse_behind(OFFICE, row, [come("x", "a")], "x")

    def test_lists_and_tuples_are_equal_events(self):
        self.assertIsNone(worse_behind(OFFICE, [["come", "x", ["a"], 0, None]], (come("x", "a"),), "x"))

    def test_against_all_small_halls(self):
        sizes, nevers = set(), 0
        for seed, many, kinds, people, places in [(168, 40, 1, 3, 2), (169, 50, 2, 2, 2), (170, 30, 3, 1, 2)]:
            for draw, ranks, one, other in pairs_of_rows(seed, many, kinds):
                both = [event[1] for event in one if event[0] == "come" and event in other]
                for name in both[:2]:
                    hall = worse_behind(Office(ranks), one, other, name)
                    size = 9 if hall is None else size_of(hall)
                    if hall is not None:
                        self.assertIs(is_hall(Office(ranks), hall), True)
                        self.assertFalse(names_of(one, other) & {person[0] for person in hall[0]})
                        self.assertTrue(is_worse(ranks, hall, one, other, name))
                    wishes = [event[2] for event in one if event[:2] == ("come", name)][0]
                    for small in halls_for(ranks, people, places) if size > 0 else []:
                        if size_of(small) < size:
                            got = told_end(end(Office(ranks), small, one))
                            had = told_end(end(Office(ranks), small, other))
                            self.assertLessEqual(liking(wishes, got, name), liking(wishes, had, name))
                    nevers += hall is None
                    sizes.add(size)
        self.assertLessEqual({0, 1, 2, 9}, sizes)
        self.assertGreater(nevers, 50)

    def test_against_drawn_halls(self):
        for draw, ranks, one, other in pairs_of_rows(171, 150, 3):
            for name in [event[1] for event in one if event[0] == "come" and event in other]:
                hall = worse_behind(Office(ranks), one, other, name)
                for _ in range(10):
                    drawn = draw.hall(sorted(ranks), 8, 8)
                    if hall is None or size_of(drawn) < size_of(hall):
                        self.assertFalse(is_worse(ranks, drawn, one, other, name))

    def test_a_place_more_or_a_comer_less_gives_everybody_else_some_place_but_perhaps_a_worse_one(self):
        worse = 0
        for draw, ranks, one, _ in pairs_of_rows(172, 250, 2):
            kinds = sorted(ranks)
            lesser = [[("place", draw.rng.choice(kinds))] + one]
            lesser += [one[:at] + one[at + 1:] for at, event in enumerate(one) if event[0] == "come"][:1]
            for row in lesser:
                hall = draw.hall(kinds)
                got, had = naive_end(ranks, hall, row)[0], naive_end(ranks, hall, one)[0]
                out = names_of([event for event in one if event[0] == "come" and event not in row])
                self.assertLessEqual(set(had) - out, set(got))
                for name in [event[1] for event in one if event[0] == "come" and event in row]:
                    worse += worse_behind(Office(ranks), row, one, name) is not None
        self.assertGreater(worse, 5)

    def test_never_worse_both_ways_and_not_alike(self):
        one = [come("x", ""), come("y", "")]
        for name in ("x", "y"):
            self.assertIsNone(worse_behind(OFFICE, one, one[::-1], name))
            self.assertIsNone(worse_behind(OFFICE, one[::-1], one, name))
        self.assertIs(alike(OFFICE, one, one[::-1]), False)


class ExchangedTest(unittest.TestCase):

    def test_told(self):
        row = [("place", "a"), ("place", "a"), ("place", "b"), come("x", "a"), ("leave", "y")]
        # Who lets both kinds takes the one that comes first, so a place of a and one of b cannot be exchanged.
        self.assertEqual(swaps(office=OFFICE, row=row), [0, 2, 3])
        self.assertEqual(needless(office=OFFICE, row=row), [4])
        self.assertEqual(swaps(OFFICE, []), [])
        self.assertEqual(swaps(OFFICE, row[:1]), [])
        self.assertEqual(needless(OFFICE, ()), [])
        self.assertEqual(swaps(OFFICE, [come("x", "a"), come("y", "a")]), [])
        self.assertEqual(swaps(OFFICE, [come("x", "a"), ("withdraw", "b")]), [0])
        self.assertEqual(swaps(OFFICE, [come("x", "a"), ("withdraw", "a")]), [])

    def test_by_alike(self):
        found = {"swaps": 0, "needless": 0}
        for draw, ranks, row, _ in pairs_of_rows(173, 150, 2):
            office = Office(ranks)
            changed = [row[:at] + [row[at + 1], row[at]] + row[at + 2:] for at in range(len(row) - 1)]
            self.assertEqual(swaps(office, row), [at for at, other in enumerate(changed) if alike(office, row, other)])
            lesser = [row[:at] + row[at + 1:] for at in range(len(row))]
            self.assertEqual(needless(office, row), [at for at, other in enumerate(lesser) if alike(office, row, other)])
            found["swaps"] += len(swaps(office, row))
            found["needless"] += len(needless(office, row))
        self.assertGreater(min(found.values()), 50)

    def test_what_is_always_so(self):
        for draw, ranks, row, _ in pairs_of_rows(174, 200, 2):
            useless, exchanged = needless(Office(ranks), row), swaps(Office(ranks), row)
            for at, event in enumerate(row):
                came = names_of([one for one in row[:at] if one[0] == "come"])
                if event[0] in ("leave", "change") and event[1] not in came:
                    self.assertIn(at, useless)
                if event[0] == "withdraw" and ("place", event[1]) not in row:
                    self.assertNotIn(at, useless)
                if event[0] == "place" and row[at + 1:at + 2] == [event]:
                    self.assertIn(at, exchanged)
        bare = [come("x", ""), come("y", ""), ("place", "a"), ("withdraw", "b")]
        self.assertNotIn(0, swaps(OFFICE, bare))
        self.assertIn(0, swaps(OFFICE, bare[:2] + [("leave", "x")]))

    def test_a_row_of_five_events_in_offices_of_three_kinds(self):
        ranks = {"a": ["points", "home"], "b": ["few", "late"], "c": ["home", "early", "points"]}
        row = [come("x", "abc", 2, "c"), come("y", "bca", 5, "a"), come("z", "cab", 3), ("place", "a"), ("place", "c")]
        for other in ([row[1], row[0]] + row[2:], row[:3] + [row[4], row[3]], row[::-1]):
            hall = parting(Office(ranks), row, other)
            self.assertTrue(hall is None or unlike(ranks, hall, row, other))
        self.assertIs(alike(Office(ranks), row, list(row)), True)
        self.assertEqual(needless(Office(ranks), row), [])

    def test_what_is_passed_stays(self):
        one, other = [["come", "x", ["a"], 0, None], ["place", "a"]], [["place", "a"], ["come", "x", ["a"], 0, None]]
        for call in (lambda: alike(OFFICE, one, other), lambda: parting(OFFICE, one, other), lambda: swaps(OFFICE, one),
                     lambda: worse_behind(OFFICE, one, other, "x"), lambda: needless(OFFICE, one)):
            self.assertEqual(call(), call())
        self.assertEqual((one, other), ([["come", "x", ["a"], 0, None], ["place", "a"]],
                                        [["place", "a"], ["come", "x", ["a"], 0, None]]))

    def test_what_is_returned_is_new(self):
        one, other = [come("x", "a"), ("place", "a")], [("place", "a"), ("place", "a"), come("x", "a")]
        hall = parting(OFFICE, one, other)
        hall[0].append(1)
        hall[1]["z"] = 1
        self.assertEqual(parting(OFFICE, one, other), ([], {}))
        needless(OFFICE, [("leave", "x")]).clear()
        self.assertEqual(needless(OFFICE, [("leave", "x")]), [0])


if __name__ == "__main__":
    unittest.main()
