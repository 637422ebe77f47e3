"""[12.3], [12.4]: which tables keep the token, and which have lists."""

import unittest

from seatroads.judged import Fault, judged, lists
from seatroads.rules import Table, apart
from tables_told import DrawTables, counts_of


def size_of(book):
    return sum(book[0]) + sum(book[1])


class JudgedTest(unittest.TestCase):

    def check_fault(self, told, fault):
        self.assertIsInstance(fault, Fault)
        self.assertEqual(sorted(vars(fault)), ["book", "comer", "token"])
        low, (side, sort) = fault.book, fault.token
        self.assertEqual([type(part) for part in (low, low[0], low[1], fault.token, fault.comer)], [tuple] * 5)
        if side == "waits":
            high = (tuple(count + (name == sort) for name, count in zip(told.waits, low[0])), low[1])
        else:
            high = (low[0], tuple(count - (name == sort) for name, count in zip(told.frees, low[1])))
        self.assertTrue(told.is_higher(high, low))
        self.assertTrue(min(high[0] + high[1], default=0) >= 0)
        self.assertTrue(told.is_fault(low, high, fault.comer))

    def test_told(self):
        keeps = Table(["x"], ["a"], 1, {("person", "x"): {(0,): ((0,), (1,)), (1,): ((1,), (0,))}})
        self.assertIsNone(judged(table=keeps))
        loses = Table(["x"], ["a"], 1, {("person", "x"): {(0,): ((0,), (0,)), (1,): ((0,), (1,))}})
        fault = judged(loses)
        self.assertEqual((fault.book, fault.token, fault.comer), (((0,), (1,)), ("free", "a"), ("person", "x")))

    def test_no_comers_and_no_sorts(self):
        self.assertIsNone(judged(Table(["x"], ["a"], 3, {})))
        self.assertEqual(lists(Table(["x"], ["a"], 3, {})), {})
        self.assertIsNone(judged(Table([], [], 1, {("place", "a"): {(): ((), ())}})))
        self.assertEqual(lists(Table([], [], 1, {("place", "a"): {(): ((), ())}})), {("place", "a"): ((), ())})

    def test_against_all_books(self):
        faults, deep = {True: 0, False: 0}, 0
        draw = DrawTables(220)
        for number in range(180):
            told = draw.told(1 + number % 2, 1 + number // 2 % 2, 1 + number % 3, 2, draw.rng.random() < 0.6)
            found = judged(told.table)
            # Books with counts above the depth, too.
            least = told.least_fault(min(told.depth + 2, 4))
            self.assertEqual(None if found is None else size_of(found.book), least)
            if found is not None:
                self.check_fault(told, found)
                deep += size_of(found.book) > 1
            faults[found is None] += 1
        self.assertGreater(min(faults.values()), 30)
        self.assertGreater(deep, 5)

    def test_a_fault_that_lies_deep(self):
        rows = {counts: ((0, 0), (1,)) for counts in counts_of(2, 3)}
        rows[3, 3] = ((0, 1), (0,))
        found = judged(Table(["x"], ["a", "b"], 3, {("person", "z"): rows}))
        self.assertEqual((size_of(found.book), found.comer), (6, ("person", "z")))
        self.assertEqual(found.book[1], (3, 3))

    def test_as_few_as_can_be_of_those_who_wait_and_of_free_places_together(self):
        # The place that comes needs two who wait to lose the token, the person one free place.
        place = {counts: ((0, 0), (1,)) for counts in counts_of(2, 2)}
        place[1, 2] = ((1, 1), (0,))
        person = {(0,): ((0,), (0, 0)), (1,): ((0,), (1, 0)), (2,): ((0,), (1, 0))}
        one = Table(["x", "y"], ["a"], 2, {("place", "z"): place})
        self.assertEqual(size_of(judged(one).book), 2)
        both = Table(["x", "y"], ["a"], 2, {("place", "z"): place, ("person", "z"): person})
        self.assertEqual((judged(both).book, judged(both).comer), (((0, 0), (1,)), ("person", "z")))
        person = {(0,): ((0,), (0, 0)), (1,): ((0,), (0, 0)), (2,): ((0,), (0, 0)), (3,): ((0,), (1, 0))}
        place = {counts: ((0, 0), (1,)) for counts in counts_of(2, 3)}
        place[1, 1] = ((1, 1), (0,))
        both = Table(["x", "y"], ["a"], 3, {("place", "z"): place, ("person", "z"): person})
        self.assertEqual((size_of(judged(both).book), judged(both).comer), (1, ("place", "z")))

    def test_equal_behind_a_comer_is_no_fault(self):
        # The one of x and the free place of a are gone behind it, whether they were there or not.
        rows = {(0,): ((0,), (0,)), (1,): ((1,), (0,))}
        self.assertIsNone(judged(Table(["x"], ["a"], 1, {("person", "z"): rows, ("place", "z"): rows})))

    def test_books_are_never_farther_apart_behind_what_keeps_the_token(self):
        draw = DrawTables(221)
        kept = 0
        for number in range(160):
            told = draw.told(2, 2, 1 + number % 3, 3, number % 2 == 0)
            if judged(told.table) is not None:
                continue
            kept += 1
            for _ in range(6):
                one, other = [(tuple(draw.rng.randint(0, 3) for _ in range(2)),
                               tuple(draw.rng.randint(0, 3) for _ in range(2))) for _ in range(2)]
                row = [draw.rng.choice(told.table.comers()) for _ in range(12)]
                for many in range(1, 13):
                    self.assertLessEqual(apart(told.table.after_all(one, row[:many]), told.table.after_all(other, row[:many])),
                                         apart(one, other))
        self.assertGreater(kept, 50)


class ListsTest(unittest.TestCase):

    def test_told(self):
        told = DrawTables(222).told(3, 3, 2, 4, False)
        found = lists(table=told.table)
        self.assertEqual(list(found), sorted(told.comers))
        for comer, (row, rests) in found.items():
            self.assertEqual((type(row), type(rests)), (tuple, tuple))
            self.assertEqual([(row, rests)], told.lists_of(comer))

    def test_each_row_by_its_list(self):
        both = {True: 0, False: 0}
        draw = DrawTables(223)
        for number in range(300):
            told = draw.told(number % 3, number // 3 % 4, 1 + number % 3, 2, draw.rng.random() < 0.4)
            all_lists = {comer: told.lists_of(comer) for comer in sorted(told.comers)}
            found = lists(told.table)
            if all(all_lists.values()):
                self.assertEqual(list(found.items()), [(comer, rows[0]) for comer, rows in all_lists.items()])
                self.assertTrue(all(len(rows) == 1 for rows in all_lists.values()))
            else:
                self.assertIsNone(found)
            both[found is None] += 1
        self.assertGreater(min(both.values()), 30)

    def test_other_rests(self):
        rows = {(0,): ((0,), (0, 3)), (1,): ((1,), (0, 0))}
        self.assertEqual(lists(Table(["x", "y"], ["a"], 1, {("person", "z"): rows})), {("person", "z"): (("a",), (0, 3))})
        none = {(0,): ((0,), (0, 3)), (1,): ((0,), (0, 3))}
        self.assertEqual(lists(Table(["x", "y"], ["a"], 1, {("person", "z"): none})), {("person", "z"): ((), (0, 3))})
        for rows in [{(0,): ((0,), (0, 3)), (1,): ((0,), (0, 2))}, {(0,): ((0,), (0, 3)), (1,): ((1,), (1, 0))}]:
            self.assertIsNone(lists(Table(["x", "y"], ["a"], 1, {("person", "z"): rows})))

    def test_at_most_one_at_a_time_the_token_is_kept_exactly_by_lists(self):
        draw = DrawTables(224)
        both = {True: 0, False: 0}
        for number in range(400):
            told = draw.single(1 + number % 3, 1 + number // 3 % 3)
            self.assertEqual(judged(told.table) is None, lists(told.table) is not None)
            both[lists(told.table) is None] += 1
        self.assertGreater(min(both.values()), 60)

    def test_what_is_returned_is_new(self):
        told = DrawTables(225).told(2, 2, 1, 2, False)
        lists(told.table).clear()
        self.assertEqual(len(lists(told.table)), 2)


if __name__ == "__main__":
    unittest.main()
