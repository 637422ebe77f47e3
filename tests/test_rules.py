"""[12.1], [12.2], [12.5], [12.6]: tables, books, and the tables of offices."""

import copy
import unittest

from samples import TWO, odd_objects
from seatroads.courses import Course
from seatroads.errors import BadBook, BadComer, BadCounts, BadKind, BadPeople, BadRule, BadTable
from seatroads.judged import judged, lists
from seatroads.offices import Office
from seatroads.rules import Table, apart, office_table, other_table
from seatroads.runs import run_of
from tables_told import DrawPeople, DrawTables, ServedOffice

ROWS = {
    ("person", "x"): {(0,): ((0,), (1, 0)), (1,): ((1,), (0, 0))},
    ("place", "a"): {(0, 0): ((0, 0), (1,)), (0, 1): ((0, 1), (0,)), (1, 0): ((1, 0), (0,)), (1, 1): ((1, 0), (0,))},
}
RULES = ["pairs", "proud", "all", "crowd", "small", "plain"]


def table():
    return Table(["x", "y"], ["a"], 1, ROWS)


def changed(comer, key, row, drop=False):
    """The comers with one row otherwise."""
    rows = copy.deepcopy(ROWS)
    if drop:
        del rows[comer][key]
    else:
        rows[comer][key] = row
    return rows


class TableTest(unittest.TestCase):

    def test_told(self):
        one = table()
        self.assertEqual((one.waits, one.frees, one.depth), (("x", "y"), ("a",), 1))
        self.assertEqual(one.comers(), [("person", "x"), ("place", "a")])
        self.assertEqual(one.row(("place", "a"), (1, 1)), ((1, 0), (0,)))
        self.assertEqual(one.row(counts=[1], comer=["person", "x"]), ((1,), (0, 0)))
        self.assertEqual(Table(waits=("x", "y"), frees=("a",), depth=1, comers=changed(
            ("place", "a"), (0, 0), [[0, 0], [1]])).row(("place", "a"), [0, 0]), ((0, 0), (1,)))
        self.assertEqual(Table(["a"], ["a"], 2, {}).comers(), [])
        self.assertEqual(Table([], [], 3, {("person", "z"): {(): ((), ())}}).row(("person", "z"), []), ((), ()))

    def test_comers_ascend(self):
        rows = {key: {(): ((), ())} for key in [("place", "b"), ("person", "z"), ("place", "a"), ("person", "q")]}
        self.assertEqual(Table([], [], 1, rows).comers(),
                         [("person", "q"), ("person", "z"), ("place", "a"), ("place", "b")])

    def test_bad_tables(self):
        for thing in [None, True, 3, "x", {}, {"x": 1}, ["x", "x"], ["X"], [None], [["x"]], [""], ["ninesigns"], table()]:
            with self.assertRaises(BadTable) as caught:
                Table(thing, None, None, None)
            self.assertEqual(caught.exception.part, "waits")
            with self.assertRaises(BadTable) as caught:
                Table(["x", "y"], thing, None, None)
            self.assertEqual(caught.exception.part, "frees")
        for thing in [None, True, 0, 4, -1, "1", [1], (), {}, table()]:
            with self.assertRaises(BadTable) as caught:
                Table(["x", "y"], ["a"], thing, None)
            self.assertEqual(caught.exception.part, "depth")

    def test_bad_comers(self):
        wrong = [None, True, [], (), "x", 3, list(ROWS.items()), table()]
        for key in ["x", None, 1, ("person",), ("person", "x", "y"), ("Person", "x"), ("person", "X"), ("person", None),
                    (None, "x"), ("waits", "x"), (("person",), "x")]:
            wrong += [{key: ROWS["person", "x"]}, {key: ROWS["place", "a"]}]
        for rows in [None, [], {}, list(ROWS["person", "x"].items()), {(0,): ((0,), (1, 0))}]:
            wrong.append({("person", "x"): rows})
        person, place = ("person", "x"), ("place", "a")
        for row in [None, (), ((0,),), ((0,), (0, 0), ()), ((0,), (0,)), ((0, 0), (0, 0)), ((2,), (0, 0)), ((-1,), (0, 0)),
                    ((0,), (-1, 0)), ((True,), (0, 0)), ((0,), (True, 0)), ((None,), (0, 0)), ("1", (0, 0)), (0, (0, 0)),
                    ({}, (0, 0)), ((0,), {0: 1}), "ab"]:
            wrong.append(changed(person, (1,), row))
        wrong += [changed(person, (0,), ((1,), (0, 0))), changed(person, (2,), ((0,), (0, 0))),
                  changed(person, (0, 0), ((0,), (0, 0))), changed(person, (0,), None, True), changed(person, 0, None),
                  changed(place, (1, 1), None, True), changed(place, (1, 1), ((1, 1, 1), (0,))),
                  changed(place, "ab", ((0, 0), (0,)))]
        for thing in wrong:
            with self.assertRaises(BadTable) as caught:
                Table(["x", "y"], ["a"], 1, thing)
            self.assertEqual(caught.exception.part, "comers")
        bools = {("person", "x"): {(False,): ((0,), (1, 0)), (True,): ((1,), (0, 0))}}
        with self.assertRaises(BadTable):
            Table(["x", "y"], ["a"], 1, bools)
        with self.assertRaises(BadTable):
            Table(["x", "y"], ["a"], 2, ROWS)

    def test_bad_comer_and_counts(self):
        for thing in odd_objects() + [("person", "y"), ("place", "x"), ["place"], "person", ("person", "x", 1), ["person", ["x"]]]:
            for call in (lambda: table().row(thing, None), lambda: table().after(((0, 0), (0,)), thing),
                         lambda: table().after_all(((0, 0), (0,)), [("person", "x"), thing, None])):
                with self.assertRaises(BadComer) as caught:
                    call()
                self.assertIs(caught.exception.comer, thing)
        for thing in odd_objects() + [(2,), (0, 0), [], ("0",), [[0]], (True,), 0, (-1,), {0: 0}]:
            with self.assertRaises(BadCounts) as caught:
                table().row(("person", "x"), thing)
            self.assertIs(caught.exception.counts, thing)

    def test_equality(self):
        one = table()
        self.assertIs(one == table(), True)
        self.assertIs(one == Table(("x", "y"), ("a",), 1, {key: dict(reversed(list(rows.items())))
                                                          for key, rows in reversed(list(ROWS.items()))}), True)
        swapped = {("person", "x"): ROWS["person", "x"], ("place", "a"): {
            counts[::-1]: (row[0][::-1], row[1]) for counts, row in ROWS["place", "a"].items()}}
        for other in [Table(["y", "x"], ["a"], 1, swapped), Table(["y", "x"], ["a"], 1, ROWS), Table(["x", "y"], ["b"], 1, ROWS), Table(["x", "y"], ["a"], 1, {}),
                      Table(["x", "y"], ["a"], 1, changed(("person", "x"), (0,), ((0,), (0, 0)))),
                      Table(["x"], ["a"], 1, {})] + odd_objects():
            self.assertIs(one == other, False)
            self.assertIs(other == one, False)
        self.assertIs(Table([], [], 1, {}) == Table([], [], 2, {}), False)

    def test_what_is_passed_can_change_later(self):
        waits, frees, rows = ["x", "y"], ["a"], changed(("person", "x"), (1,), [[1], [0, 0]])
        kept = copy.deepcopy(rows)
        one = Table(waits, frees, 1, rows)
        self.assertEqual((waits, frees, rows), (["x", "y"], ["a"], kept))
        waits.append("z")
        frees.clear()
        rows[("person", "x")][(1,)][0][0] = 0
        rows[("place", "a")].clear()
        self.assertEqual(one, table())
        self.assertEqual(one.row(("person", "x"), (1,)), ((1,), (0, 0)))
        one.comers().clear()
        self.assertEqual(len(one.comers()), 2)


class BooksTest(unittest.TestCase):

    def test_after(self):
        one = table()
        self.assertEqual(one.after(((0, 3), (0,)), ("person", "x")), ((1, 3), (0,)))
        self.assertEqual(one.after(book=[[0, 3], [5]], comer=["person", "x"]), ((0, 3), (4,)))
        self.assertEqual(one.after(((4, 3), (2,)), ("place", "a")), ((3, 3), (2,)))
        self.assertEqual(one.after(((0, 3), (2,)), ("place", "a")), ((0, 2), (2,)))
        self.assertEqual(one.after(((0, 0), (2,)), ("place", "a")), ((0, 0), (3,)))

    def test_after_all(self):
        one = table()
        row = [("person", "x"), ("person", "x"), ("place", "a"), ["place", "a"], ("place", "a")]
        self.assertEqual(one.after_all(book=((0, 1), (1,)), comers=row), ((0, 0), (1,)))
        self.assertEqual(one.after_all([[0, 1], [1]], ()), ((0, 1), (1,)))

    def test_bad_books(self):
        for thing in odd_objects() + [((0, 0),), ((0,), (0,)), ((0, 0), ()), ((0, 0), (0,), ()), ((0, -1), (0,)),
                                      ((0, True), (0,)), ((0, "0"), (0,)), ((0, 0), 0), ((0, 0), {0: 0}), "ab"]:
            for call in (lambda: table().after(thing, None), lambda: table().after_all(thing, None)):
                with self.assertRaises(BadBook) as caught:
                    call()
                self.assertIs(caught.exception.book, thing)

    def test_no_list_of_comers(self):
        for thing in [None, True, 3, "", {}, table()]:
            with self.assertRaises(BadComer) as caught:
                table().after_all(((0, 0), (0,)), thing)
            self.assertIs(caught.exception.comer, thing)

    def test_apart(self):
        self.assertEqual(apart(((1, 0), (2,)), ((0, 4), [2])), 5)
        self.assertEqual(apart(one=[[], []], other=((), ())), 0)
        self.assertEqual(apart(((0,), (10 ** 20,)), ((1,), (0,))), 10 ** 20 + 1)
        for thing in odd_objects() + [((0,),), ((-1,), ()), ((True,), ()), ((0,), ("",)), "ab"]:
            if thing in ([], ()):
                continue
            with self.assertRaises(BadBook) as caught:
                apart(thing, None)
            self.assertIs(caught.exception.book, thing)
            with self.assertRaises(BadBook) as caught:
                apart(((0,), ()), thing)
            self.assertIs(caught.exception.book, thing)
        for other in [((0,), (0,)), ((), ()), ((0, 0), ()), ((), (0,))]:
            with self.assertRaises(BadBook) as caught:
                apart(((0,), ()), other)
            self.assertIs(caught.exception.book, other)

    def test_against_a_going_of_its_own(self):
        draw = DrawTables(210)
        for number in range(120):
            told = draw.told(number % 4, (number // 4) % 4, 1 + number % 3, 3)
            book = (tuple(draw.rng.randint(0, 5) for _ in told.waits), tuple(draw.rng.randint(0, 5) for _ in told.frees))
            self.assertEqual(told.table.after_all(book, []), book)
            row = [draw.rng.choice(sorted(told.comers)) for _ in range(12)] if told.comers else []
            behind = book
            for comer in row:
                self.assertEqual(told.table.after(behind, comer), told.after(behind, comer))
                behind = told.after(behind, comer)
            self.assertEqual(told.table.after_all(book, row), behind)
            for comer, rows in told.comers.items():
                for counts in rows:
                    self.assertEqual(told.table.row(comer, counts), rows[counts])

    def test_four_sorts_a_side_depth_three_and_eight_comers(self):
        told = DrawTables(211).told(4, 4, 3, 8)
        self.assertEqual(len(told.table.comers()), 8)
        self.assertEqual(told.table.after(((9,) * 4, (9,) * 4), told.table.comers()[0]),
                         told.after(((9,) * 4, (9,) * 4), told.table.comers()[0]))


class OfficeTableTest(unittest.TestCase):

    def setUp(self):
        self.office = Office({"b": [], "a": ["points", "early"]})
        self.people = {"y": (["a"], 3, None), "x": (("b", "a"), 2, "a")}

    def test_told(self):
        one = office_table(office=self.office, people=self.people)
        self.assertEqual((one.waits, one.frees, one.depth), (("x", "y"), ("a", "b"), 1))
        self.assertEqual(one.comers(), [("person", "x"), ("person", "y"), ("place", "a"), ("place", "b")])
        self.assertEqual(one.row(("person", "x"), (1, 1)), ((0, 1), (0, 0)))
        self.assertEqual(one.row(("person", "x"), (1, 0)), ((1, 0), (0, 0)))
        self.assertEqual(one.row(("person", "x"), (0, 0)), ((0, 0), (1, 0)))
        self.assertEqual(one.row(("person", "y"), (0, 1)), ((0, 0), (0, 1)))
        self.assertEqual(one.row(("place", "a"), (1, 1)), ((0, 1), (0, 0)))
        self.assertEqual(one.row(("place", "b"), (0, 1)), ((0, 0), (0, 1)))
        self.assertEqual(lists(one), {
            ("person", "x"): (("b", "a"), (1, 0)), ("person", "y"): (("a",), (0, 1)),
            ("place", "a"): (("y", "x"), (1, 0)), ("place", "b"): (("x",), (0, 1))})
        self.assertIsNone(judged(one))

    def test_nobody(self):
        one = office_table(self.office, {})
        self.assertEqual((one.waits, one.comers()), ((), [("place", "a"), ("place", "b")]))
        bare = office_table(Office({}), {"x": ((), 0, None)})
        self.assertEqual((bare.waits, bare.frees, bare.row(("person", "x"), ())), (("x",), (), ((), (1,))))

    def test_bad_people(self):
        for thing in [None, [], (), "x", 3, True, self.office]:
            for call in (lambda: office_table(self.office, thing), lambda: other_table(self.office, thing, None)):
                with self.assertRaises(BadPeople) as caught:
                    call()
                self.assertIs(caught.exception.name, thing)
        for key in ["X", "", None, 1, True, ("x",), "ninesigns"]:
            with self.assertRaises(BadPeople) as caught:
                office_table(self.office, {"z": ((), 0, None), key: ((), 0, None), "a": None})
            self.assertIs(caught.exception.name, key)
        for row in [None, (), ((), 0), ((), 0, None, 0), ("a", 0, None), (["c"], 0, None), (["a", "a"], 0, None),
                    (["a"], -1, None), (["a"], True, None), (["a"], 0, "c"), {}, "abc", [None, 0, None]]:
            for call in (lambda: office_table(self.office, {"z": ((), 0, None), "x": row, "A": None}),
                         lambda: other_table(self.office, {"z": ((), 0, None), "x": row, "A": None}, None)):
                with self.assertRaises(BadPeople) as caught:
                    call()
                self.assertEqual(caught.exception.name, "x")

    def test_people_who_are_not_told_apart(self):
        cases = [
            (["points"], (3, None), (3, None), True), (["points"], (3, None), (4, None), False),
            (["few"], (3, "a"), (3, None), True), (["few"], (4, None), (3, None), False),
            (["home"], (3, "a"), (4, None), False), (["home"], (3, "b"), (4, None), True), (["home"], (3, "a"), (4, "a"), True),
            (["home", "points"], (3, "a"), (4, "a"), False), ([], (3, "a"), (4, None), True),
            (["early"], (3, "a"), (4, None), True), (["late", "points"], (3, None), (4, None), True),
            (["points", "late"], (3, None), (4, None), False), (["home", "early", "points"], (3, None), (4, None), True),
        ]
        for words, one, other, is_bad in cases:
            office = Office({"a": words, "b": []})
            people = {"y": (["a"], *one), "x": (["b", "a"], *other)}
            if is_bad:
                for call in (lambda: office_table(office, people), lambda: other_table(office, people, None)):
                    with self.assertRaises(BadPeople) as caught:
                        call()
                    self.assertEqual(caught.exception.name, "x")
                with self.assertRaises(BadPeople) as caught:
                    office_table(office, dict(reversed(list(people.items()))))
                self.assertEqual(caught.exception.name, "y")
            else:
                self.assertEqual(office_table(office, people).waits, ("x", "y"))
            # Where they let no kind in common nobody needs to tell them apart.
            apart_they = {"y": (["a"], *one), "x": (["b"], *other)}
            self.assertEqual(office_table(office, apart_they).waits, ("x", "y"))

    def test_what_is_wrong_counts_ahead_of_who_is_not_told_apart(self):
        people = {"x": (["b"], 0, None), "y": (["b"], 0, None), "z": None}
        with self.assertRaises(BadPeople) as caught:
            office_table(self.office, people)
        self.assertEqual(caught.exception.name, "z")

    def test_held_against_runs(self):
        draw = DrawPeople(212)
        for number in range(80):
            ranks, people = draw.office(1 + number % 4, draw.rng.randint(1, 6))
            one = office_table(Office(ranks), people)
            row = [draw.rng.choice(one.comers()) for _ in range(12)]
            events, sort_of = {}, {}
            for time, (side, name) in enumerate(row):
                if side == "place":
                    events[time] = ("place", name)
                else:
                    sort_of["q" + str(time)] = name
                    events[time] = ("come", "q" + str(time), *people[name])
            run = run_of(Course(Office(ranks), events))
            for many in range(len(row) + 1):
                waits = [sort_of[name] for name in (run.waiting(many - 1) if many else [])]
                free = run.free(many - 1) if many else {}
                self.assertEqual(one.after_all(((0,) * len(people), (0,) * len(ranks)), row[:many]), (
                    tuple(waits.count(name) for name in sorted(people)),
                    tuple(free.get(kind, 0) for kind in sorted(ranks))))

    def test_lists_of_an_office(self):
        draw = DrawPeople(213)
        for number in range(40):
            ranks, people = draw.office(1 + number % 4, draw.rng.randint(0, 5))
            one, served = office_table(Office(ranks), people), ServedOffice(ranks, people, "plain")
            wanted = {}
            for place, name in enumerate(sorted(people)):
                wanted["person", name] = (people[name][0], tuple(int(at == place) for at in range(len(people))))
            for place, kind in enumerate(sorted(ranks)):
                letting = [name for name in people if kind in people[name][0]]
                rank = sorted(letting, key=lambda name: sum(served.is_ahead(kind, other, name) for other in letting
                                                            if other != name))
                wanted["place", kind] = (tuple(rank), tuple(int(at == place) for at in range(len(ranks))))
            self.assertEqual(list(lists(one).items()), sorted(wanted.items()))
            self.assertIsNone(judged(one))


class OtherTableTest(unittest.TestCase):

    def test_pairs(self):
        office, people = Office({"a": ["points"], "b": ["points"]}), {"x": (["a", "b"], 1, None), "y": ([], 2, None)}
        one = other_table(office=office, people=people, rule="pairs")
        self.assertEqual((one.depth, one.waits, one.frees), (2, ("x", "y"), ("a", "b")))
        for counts, row in [((2, 2), ((2, 0), (0, 0))), ((1, 1), ((1, 1), (0, 0))), ((0, 2), ((0, 2), (0, 0))),
                            ((1, 0), ((0, 0), (2, 0))), ((0, 0), ((0, 0), (2, 0)))]:
            self.assertEqual(one.row(("person", "x"), counts), row)
        self.assertEqual(one.row(("person", "y"), (2, 2)), ((0, 0), (0, 2)))
        self.assertEqual(one.row(("place", "a"), (2, 0)), ((1, 0), (0, 0)))
        self.assertEqual(one.row(("place", "a"), (0, 2)), ((0, 0), (1, 0)))

    def test_proud(self):
        one = other_table(Office({"a": [], "b": []}), {"x": (["a"], 0, None)}, "proud")
        for counts, row in [((1, 1), ((1, 0), (0,))), ((0, 1), ((0, 0), (0,))), ((0, 0), ((0, 0), (1,)))]:
            self.assertEqual(one.row(("person", "x"), counts), row)
        nothing = other_table(Office({"a": []}), {"x": ([], 0, None)}, "proud")
        self.assertEqual(nothing.row(("person", "x"), (1,)), ((0,), (0,)))

    def test_all(self):
        one = other_table(Office({"a": [], "b": []}), {"x": (["b", "a"], 0, None)}, "all")
        for counts, row in [((1, 1), ((0, 1), (0,))), ((2, 0), ((0, 0), (1,))), ((0, 2), ((0, 0), (1,)))]:
            self.assertEqual(one.row(("person", "x"), counts), row)
        nothing = other_table(Office({"a": []}), {"x": ([], 0, None)}, "all")
        self.assertEqual(nothing.row(("person", "x"), (1,)), ((0,), (1,)))

    def test_crowd_and_small(self):
        people = {"x": (["a"], 1, None), "y": (["a"], 2, None), "z": ([], 3, None)}
        crowd, small = [other_table(Office({"a": ["points"]}), people, rule) for rule in ("crowd", "small")]
        for counts, most, least in [((1, 1, 2), 1, 1), ((2, 1, 2), 0, 1), ((1, 2, 0), 1, 0), ((2, 2, 0), 1, 1),
                                    ((1, 0, 2), 0, 0), ((0, 2, 1), 1, 1)]:
            for one, place in ((crowd, most), (small, least)):
                self.assertEqual(one.row(("place", "a"), counts),
                                 (tuple(int(at == place) for at in range(3)), (0,)))
                self.assertEqual(one.row(("place", "a"), (0, 0, 2)), ((0, 0, 0), (1,)))
        # From two on as many: three of x are not more than two of y.
        self.assertEqual(crowd.after(((3, 2, 0), (0,)), ("place", "a")), ((3, 1, 0), (0,)))

    def test_plain(self):
        draw = DrawPeople(214)
        for _ in range(20):
            ranks, people = draw.office(3, 3)
            plain, bare = other_table(Office(ranks), people, "plain"), office_table(Office(ranks), people)
            self.assertEqual((plain.depth, lists(plain)), (2, lists(bare)))

    def test_bad_rules(self):
        office, people = Office({"a": []}), {"x": (["a"], 0, None)}
        for thing in odd_objects() + ["Plain", ["plain"], "Pairs", ("all",), {"small": 1}]:
            with self.assertRaises(BadRule) as caught:
                other_table(office, people, thing)
            self.assertIs(caught.exception.rule, thing)
        with self.assertRaises(BadPeople):
            other_table(office, {**people, "y": (["a"], 0, None)}, "none")

    def test_held_against_people_and_places_one_by_one(self):
        draw = DrawPeople(215)
        for number in range(180):
            rule = RULES[number % 6]
            ranks, people = draw.office(draw.rng.randint(1, 4), draw.rng.randint(1, 5))
            one, served = other_table(Office(ranks), people, rule), ServedOffice(ranks, people, rule)
            book = served.book()
            for _ in range(14):
                comer = draw.rng.choice(one.comers())
                served.come(comer)
                book = one.after(book, comer)
                self.assertEqual(book, served.book(), rule)

    def test_plain_and_crowd_keep_the_token_in_every_office(self):
        draw = DrawPeople(216)
        lost = dict.fromkeys(RULES, 0)
        for _ in range(40):
            ranks, people = draw.office(draw.rng.randint(1, 3), draw.rng.randint(1, 3))
            for rule in RULES:
                lost[rule] += judged(other_table(Office(ranks), people, rule)) is not None
        self.assertEqual((lost["plain"], lost["crowd"]), (0, 0))
        self.assertTrue(all(lost[rule] > 5 for rule in ("pairs", "proud", "all", "small")), lost)

    def test_four_kinds_and_six_people(self):
        ranks, people = DrawPeople(217).office(4, 6)
        for rule in RULES:
            one = other_table(Office(ranks), people, rule)
            self.assertEqual(len(one.comers()), 10)
            found = judged(one)
            self.assertTrue(found is None or found.comer in one.comers())

    def test_what_is_passed_stays(self):
        people = {"x": [["a"], 1, None], "y": (["b"], 2, None)}
        for rule in RULES:
            other_table(Office(TWO), people, rule)
        one = office_table(Office(TWO), people)
        self.assertEqual(people, {"x": [["a"], 1, None], "y": (["b"], 2, None)})
        people["x"][0].clear()
        self.assertEqual(one.row(("person", "x"), (1, 1)), ((1, 0), (0, 0)))


if __name__ == "__main__":
    unittest.main()
