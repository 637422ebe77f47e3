"""[5.7], [5.8]: one person or one place more, and wishes told otherwise."""

import unittest
from itertools import combinations, permutations

from meetings import DrawMeetings, big_meetings, small_meetings
from samples import odd_objects
from seatroads.errors import BadKind, BadPerson, BadWishes, NoPerson
from seatroads.offices import Office
from seatroads.rounds import Meeting, best
from seatroads.walks import one_more, one_more_place, told_less, told_otherwise

OFFICE = Office({"a": ["points"], "b": ["few"], "c": []})
ANN = ("ann", ["a", "b"], 1, None)
BOB = ("bob", ["b", "a"], 2, "a")


class OneMoreTest(unittest.TestCase):

    def test_walks(self):
        meeting = Meeting(OFFICE, [ANN, BOB], {"a": 1, "b": 1, "c": 0})
        self.assertEqual(one_more(meeting, ("cleo", ["c"], 3, None)), ([("cleo", "c", "cleo")], ("waits", "cleo")))
        self.assertEqual(one_more(meeting, ["cleo", [], 3, None]), ([], ("waits", "cleo")))
        self.assertEqual(one_more(meeting, ("cleo", ["a"], 3, None)), (
            [("cleo", "a", "ann"), ("ann", "b", "bob"), ("bob", "a", "bob")], ("waits", "bob")))
        self.assertEqual(one_more(meeting=meeting, person=("cleo", ["a"], 0, None)), (
            [("cleo", "a", "cleo")], ("waits", "cleo")))
        self.assertEqual(one_more(meeting, ("cleo", ["b"], 2, None)), ([("cleo", "b", "cleo")], ("waits", "cleo")))

    def test_a_place_that_is_free(self):
        meeting = Meeting(OFFICE, [ANN, BOB], {"a": 2, "b": 1})
        self.assertEqual(one_more(meeting, ("cleo", ["b", "a"], 3, None)), (
            [("cleo", "b", "cleo"), ("cleo", "a", None)], ("taken", "a")))
        self.assertEqual(one_more(meeting, ("cleo", ["b", "a"], 0, None)), (
            [("cleo", "b", "bob"), ("bob", "a", None)], ("taken", "a")))

    def test_the_further_one_can_come_to_wait_behind_others(self):
        office = Office({"a": ["points"], "b": ["few"]})
        meeting = Meeting(office, [("x", ["a", "b"], 2, None), ("y", ["b", "a"], 4, None)], {"a": 1, "b": 1})
        self.assertEqual(one_more(meeting, ("z", ["a"], 3, None)), (
            [("z", "a", "x"), ("x", "b", "y"), ("y", "a", "z")], ("waits", "z")))

    def test_who_came_last(self):
        for word, token in [("early", "z"), ("late", "x")]:
            meeting = Meeting(Office({"a": [word]}), [("x", ["a"], 2, None)], {"a": 1})
            self.assertEqual(one_more(meeting, ("z", ["a"], 2, None)), ([("z", "a", token)], ("waits", token)))

    def test_bad_persons(self):
        meeting = Meeting(OFFICE, [ANN, BOB], {"a": 1})
        for thing in odd_objects() + [("ann", ["c"], 0, None), ("bob", [], 0, None), ("dan", ["d"], 0, None),
                                      ("dan", ["a"], 0), ("dan", ["a"], None, None), ("Dan", [], 0, None),
                                      ("dan", ["a"], 0, "d"), [("dan", ["a"], 0, None)]]:
            with self.assertRaises(BadPerson) as caught:
                one_more(meeting, thing)
            self.assertEqual(caught.exception.index, 0)

    def test_step_by_step(self):
        """Each triple by the words, on a matching of the test's own; the end is the best one with the one more."""
        waits, taken = 0, 0
        for told, person in further_ones():
            walk, token = one_more(told.meeting, person)
            given = told.best() if len(told.people) < 6 else best(told.meeting)
            fuller = told.with_person(person)
            at, left = person[0], list(person[1])
            end = None
            for name, kind, other in walk:
                self.assertIsNone(end)
                self.assertEqual((name, kind), (at, left.pop(0)))
                holders = [one for one in fuller.rank(kind) if given.get(one) == kind]
                if len(holders) < fuller.free.get(kind, 0):
                    self.assertIsNone(other)
                    given[name] = kind
                    end = ("taken", kind)
                elif not holders or fuller.rank(kind).index(holders[-1]) < fuller.rank(kind).index(name):
                    self.assertEqual(other, name)
                else:
                    self.assertEqual(other, holders[-1])
                    del given[other]
                    given[name] = kind
                    at, left = other, fuller.wishes[other][fuller.wishes[other].index(kind) + 1:]
            if end is None:
                self.assertEqual(left, [])
                end = ("waits", at)
            self.assertEqual(token, end)
            self.assertEqual(given, fuller.best() if len(fuller.people) < 7 else best(fuller.meeting))
            waits += token[0] == "waits" and len(walk) > 2
            taken += token[0] == "taken" and len(walk) > 2
        self.assertGreater(waits, 20)
        self.assertGreater(taken, 5)

    def test_facts(self):
        for told, person in further_ones():
            _, token = one_more(told.meeting, person)
            before, then = best(told.meeting), best(told.with_person(person).meeting)
            for name in told.wishes:
                self.assertFalse(name in then and told.likes(name, then[name], before.get(name)))
                self.assertEqual((name in before) != (name in then), token == ("waits", name), (name, token))
            for kind in told.ranks:
                more = list(then.values()).count(kind) - list(before.values()).count(kind)
                self.assertEqual(more, 1 if token == ("taken", kind) else 0)


class OneMorePlaceTest(unittest.TestCase):

    def test_moves(self):
        meeting = Meeting(OFFICE, [ANN, BOB, ("cleo", ["a"], 3, None)], {"a": 1, "b": 1})
        self.assertEqual(best(meeting), {"ann": "b", "cleo": "a"})
        moves, token = one_more_place(meeting, "a")
        self.assertEqual((moves, token), ({"ann": ("b", "a"), "bob": (None, "b")}, ("placed", "bob")))
        self.assertEqual(one_more_place(meeting=meeting, kind="b"), ({"bob": (None, "b")}, ("placed", "bob")))
        self.assertEqual(one_more_place(meeting, "c"), ({}, ("free", "c")))

    def test_a_row_of_moves(self):
        office = Office({"a": [], "b": [], "c": []})
        meeting = Meeting(office, [("z", ["a"], 0, None), ("y", ["a", "b"], 0, None), ("x", ["b", "c"], 0, None)],
                          {"a": 1, "b": 1, "c": 1})
        moves, token = one_more_place(meeting, "a")
        self.assertEqual(list(moves.items()), [("x", ("c", "b")), ("y", ("b", "a"))])
        self.assertEqual(token, ("free", "c"))

    def test_no_places_before(self):
        meeting = Meeting(OFFICE, [ANN], {})
        self.assertEqual(one_more_place(meeting, "b"), ({"ann": (None, "b")}, ("placed", "ann")))

    def test_bad_kinds(self):
        meeting = Meeting(OFFICE, [ANN], {})
        for thing in odd_objects() + ["d", ["a"]]:
            with self.assertRaises(BadKind) as caught:
                one_more_place(meeting, thing)
            self.assertIs(caught.exception.kind, thing)

    def test_against_the_best_with_one_more(self):
        tokens = {}
        for told in small_meetings(31, 80):
            for kind in told.ranks:
                moves, token = one_more_place(told.meeting, kind)
                before, then = told.best(), told.with_free(kind).best()
                wanted = {name: (before.get(name), then.get(name)) for name in sorted(told.wishes)
                          if before.get(name) != then.get(name)}
                self.assertEqual(list(moves.items()), list(wanted.items()))
                for name in told.wishes:
                    self.assertFalse(name in before and told.likes(name, before[name], then.get(name)))
                    self.assertEqual((name in before) != (name in then), token == ("placed", name))
                for other in told.ranks:
                    free = told.free.get(other, 0) - list(before.values()).count(other)
                    later = told.with_free(kind).free.get(other, 0) - list(then.values()).count(other)
                    self.assertEqual(later - free, 1 if token == ("free", other) else 0)
                tokens[token[0], len(moves) > 1] = True
        self.assertEqual(len(tokens), 4)

    def test_what_is_passed_stays(self):
        meeting = Meeting(OFFICE, [ANN, BOB], {"a": 1})
        person = ["cleo", ["a", "b"], 3, None]
        before = (meeting.people(), meeting.free(), best(meeting))
        one_more(meeting, person)[0].clear()
        one_more_place(meeting, "b")[0].clear()
        told_otherwise(meeting, "ann", person[1])
        told_less(meeting, "bob").clear()
        self.assertEqual(person, ["cleo", ["a", "b"], 3, None])
        self.assertEqual((meeting.people(), meeting.free(), best(meeting)), before)
        self.assertEqual(one_more_place(meeting, "b"), ({"bob": ("a", "b"), "ann": (None, "a")}, ("placed", "ann")))


class ToldOtherwiseTest(unittest.TestCase):

    def test_told_otherwise(self):
        meeting = Meeting(OFFICE, [ANN, BOB], {"a": 1, "b": 1})
        self.assertEqual(told_otherwise(meeting, "ann", ["b"]), "b")
        self.assertEqual(told_otherwise(meeting=meeting, name="ann", wishes=()), None)
        self.assertEqual(told_otherwise(meeting, "ann", ("c", "a")), "a")
        self.assertEqual(told_otherwise(meeting, "bob", ["a", "b"]), "a")
        self.assertIsNone(told_otherwise(meeting, "bob", ["c"]))

    def test_errors_in_their_order(self):
        meeting = Meeting(OFFICE, [ANN, BOB], {"a": 1, "b": 1})
        for thing in odd_objects() + ["cleo", ["ann"], ("ann",)]:
            with self.assertRaises(NoPerson) as caught:
                told_otherwise(meeting, thing, ["d"])
            self.assertIs(caught.exception.name, thing)
            with self.assertRaises(NoPerson) as caught:
                told_less(meeting, thing)
            self.assertIs(caught.exception.name, thing)
        for thing in odd_objects() + ["a", ["d"], ["a", "a"], {"a": 1}, [["a"]], ["a", None]]:
            if thing in ([], ()):
                continue
            with self.assertRaises(BadWishes) as caught:
                told_otherwise(meeting, "ann", thing)
            self.assertIs(caught.exception.thing, thing)

    def test_against_all_wishes(self):
        """[5.8]: as the best one of the round told otherwise, and never better than own wishes."""
        for told in small_meetings(33, 40):
            for name, wishes in told.wishes.items():
                for many in range(len(told.ranks) + 1):
                    for other in permutations(sorted(told.ranks), many):
                        got = told_otherwise(told.meeting, name, list(other))
                        self.assertEqual(got, told.with_wishes(name, other).best().get(name))
                        own = told.best().get(name)
                        if got in wishes:
                            self.assertIsNotNone(own)
                            self.assertLessEqual(wishes.index(own), wishes.index(got))

    def test_told_less(self):
        meeting = Meeting(OFFICE, [ANN, BOB], {"a": 1, "b": 1})
        self.assertEqual(told_less(meeting, "ann"), ["a", "b"])
        self.assertEqual(told_less(meeting=meeting, name="bob"), ["b", "a"])
        self.assertEqual(told_less(Meeting(OFFICE, [ANN], {"b": 1}), "ann"), ["b"])
        self.assertEqual(told_less(Meeting(OFFICE, [ANN], {"c": 1}), "ann"), [])
        self.assertEqual(told_less(Meeting(OFFICE, [("x", [], 0, None)], {"c": 1}), "x"), [])

    def test_told_less_against_all_parts_of_the_wishes(self):
        better = 0
        for told in small_meetings(34, 60):
            for name, wishes in told.wishes.items():
                had = set()
                for many in range(len(wishes) + 1):
                    for numbers in combinations(range(len(wishes)), many):
                        some = [wishes[number] for number in numbers]
                        had.add(told.with_wishes(name, some).worst().get(name))
                found = told_less(told.meeting, name)
                self.assertEqual(found, [kind for kind in wishes if kind in had])
                better += bool(found) and found[0] != told.worst().get(name)
        self.assertGreater(better, 5)


def further_ones():
    """Meetings, each with a further person."""
    draw = DrawMeetings(41)
    found = []
    for told in small_meetings(42, 80) + big_meetings():
        found.append((told, draw.person(told.ranks, "q" + str(draw.rng.randint(0, 9)))))
    return found


if __name__ == "__main__":
    unittest.main()
