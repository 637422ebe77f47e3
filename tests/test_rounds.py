"""[5.1] to [5.4]: meetings, matchings, the best ones, and papers of refusals."""

import unittest

from meetings import Told, big_meetings, full_stable, small_meetings
from oracle import Naive
from samples import ALL_RANKS, Draw, odd_objects
from seatroads.courses import Course
from seatroads.errors import BadFree, BadKind, BadMatching, BadPerson, BadSide
from seatroads.offices import Office
from seatroads.rounds import Meeting, best, is_refusals, is_stable, refusals, would_rather
from seatroads.runs import run_of

OFFICE = Office({"a": ["points"], "b": ["few"], "c": []})
ANN = ("ann", ["a", "b"], 1, None)
BOB = ("bob", ["b", "a"], 2, "a")
CLEO = ("cleo", ["a"], 3, "c")


class MeetingTest(unittest.TestCase):

    def test_people_and_free(self):
        meeting = Meeting(OFFICE, [ANN, BOB], {"b": 2, "c": 0, "a": 1})
        self.assertEqual(meeting.people(), [("ann", ("a", "b"), 1, None), ("bob", ("b", "a"), 2, "a")])
        self.assertEqual(list(meeting.free().items()), [("a", 1), ("b", 2)])
        nobody = Meeting(office=OFFICE, people=(), free={})
        self.assertEqual((nobody.people(), nobody.free(), nobody.ranked("a")), ([], {}, []))

    def test_lists_and_tuples_mean_the_same(self):
        one = Meeting(OFFICE, [ANN, BOB], {"a": 1})
        other = Meeting(OFFICE, (list(ANN), ("bob", ("b", "a"), 2, "a")), {"a": 1})
        self.assertEqual(one, other)
        self.assertEqual(one.people(), other.people())

    def test_ranked(self):
        people = [ANN, BOB, CLEO, ("dan", ["b"], 1, None), ("eve", [], 9, None)]
        meeting = Meeting(OFFICE, people, {"a": 1})
        self.assertEqual(meeting.ranked("a"), ["cleo", "bob", "ann"])
        self.assertEqual(meeting.ranked("b"), ["ann", "dan", "bob"])
        self.assertEqual(meeting.ranked(kind="c"), [])

    def test_who_stands_ahead_came_earlier(self):
        words = {"early": ["x", "y", "z"], "late": ["z", "y", "x"], "points": ["y", "x", "z"], "few": ["x", "z", "y"]}
        people = [("x", ["k"], 1, None), ("y", ["k"], 2, "k"), ("z", ["k"], 1, "k")]
        for word, wanted in words.items():
            self.assertEqual(Meeting(Office({"k": [word]}), people, {}).ranked("k"), wanted)
        self.assertEqual(Meeting(Office({"k": ["home", "late"]}), people, {}).ranked("k"), ["z", "y", "x"])
        self.assertEqual(Meeting(Office({"k": []}), people, {}).ranked("k"), ["x", "y", "z"])
        self.assertEqual(Meeting(Office({"k": []}), people[::-1], {}).ranked("k"), ["z", "y", "x"])

    def test_ranked_against_the_words_naively(self):
        for told in small_meetings():
            for kind in told.ranks:
                self.assertEqual(told.meeting.ranked(kind), told.rank(kind))

    def test_ranked_of_no_kind(self):
        meeting = Meeting(OFFICE, [ANN], {"a": 1})
        for thing in odd_objects() + ["d", ["a"], ("a",)]:
            with self.assertRaises(BadKind) as caught:
                meeting.ranked(thing)
            self.assertIs(caught.exception.kind, thing)

    def test_bad_people(self):
        for thing in odd_objects() + [
                ("dan", ["a"], 1), ("dan", ["a"], 1, None, None), ("Dan", ["a"], 1, None), ("dan", ["d"], 1, None),
                ("dan", ["a", "a"], 1, None), ("dan", "a", 1, None), ("dan", ["a"], True, None),
                ("dan", ["a"], 10 ** 6 + 1, None), ("dan", ["a"], -1, None), ("dan", ["a"], 1, "d"),
                ("come", "dan", ["a"], 1, None), "dan", ("ann", ["a"], 1, None), [[], ["a"], 1, None]]:
            with self.assertRaises(BadPerson) as caught:
                Meeting(OFFICE, [ANN, BOB, thing, None], {"d": 1})
            self.assertEqual(caught.exception.index, 2)

    def test_no_list_of_people(self):
        for thing in [None, {}, {0: ANN}, "ann", 7, OFFICE, True]:
            with self.assertRaises(BadPerson) as caught:
                Meeting(OFFICE, thing, {"d": 1})
            self.assertEqual(caught.exception.index, 0)

    def test_the_first_bad_person_counts(self):
        with self.assertRaises(BadPerson) as caught:
            Meeting(OFFICE, [ANN, BOB, list(BOB), ANN], None)
        self.assertEqual(caught.exception.index, 2)

    def test_points_to_the_bounds(self):
        people = [("ann", [], 0, None), ("bob", [], 10 ** 6, None)]
        self.assertEqual([person[2] for person in Meeting(OFFICE, people, {}).people()], [0, 10 ** 6])

    def test_bad_free(self):
        for thing in [None, [], (), [("a", 1)], "a", 3, OFFICE]:
            with self.assertRaises(BadFree) as caught:
                Meeting(OFFICE, [ANN], thing)
            self.assertIs(caught.exception.thing, thing)
        for key in ["d", None, 1, True, "", ("a",), 10 ** 9]:
            with self.assertRaises(BadFree) as caught:
                Meeting(OFFICE, [ANN], {"a": 1, key: 1, "e": 1, "b": None})
            self.assertIs(caught.exception.thing, key)
        for many in [-1, True, False, None, "1", [1], (), {}, OFFICE]:
            with self.assertRaises(BadFree) as caught:
                Meeting(OFFICE, [ANN], {"c": 0, "b": many, "a": -1})
            self.assertEqual(caught.exception.thing, "b")

    def test_equality(self):
        meeting = Meeting(OFFICE, [ANN, BOB], {"a": 1, "b": 0})
        self.assertEqual(meeting, Meeting(Office({"c": [], "b": ("few",), "a": ["points"]}), [ANN, BOB], {"a": 1}))
        self.assertIs(meeting == Meeting(OFFICE, [ANN, BOB], {"a": 1, "c": 0}), True)
        for other in [Meeting(OFFICE, [BOB, ANN], {"a": 1}), Meeting(OFFICE, [ANN, BOB], {"a": 2}),
                      Meeting(OFFICE, [ANN], {"a": 1}), Meeting(Office({"a": [], "b": []}), [ANN, BOB], {"a": 1}),
                      Meeting(OFFICE, [ANN, BOB], {"a": 1, "b": 1})] + odd_objects():
            self.assertIs(meeting == other, False)
            self.assertIs(other == meeting, False)
            self.assertIs(meeting != other, True)

    def test_what_is_passed_can_change_later(self):
        wishes, free = ["a", "b"], {"a": 1}
        people = [["ann", wishes, 1, None], BOB]
        meeting = Meeting(OFFICE, people, free)
        self.assertEqual((people, free), ([["ann", ["a", "b"], 1, None], BOB], {"a": 1}))
        wishes.reverse()
        people[0][2] = 9
        people.pop()
        free["b"] = 7
        self.assertEqual(meeting, Meeting(OFFICE, [ANN, BOB], {"a": 1}))
        self.assertEqual(meeting.ranked("a"), ["bob", "ann"])

    def test_what_is_returned_is_new(self):
        meeting = Meeting(OFFICE, [ANN, BOB], {"a": 1, "b": 1})
        for told in (meeting.people, meeting.free, lambda: meeting.ranked("a"), lambda: best(meeting),
                     lambda: best(meeting, "kinds"), lambda: refusals(meeting), lambda: would_rather(meeting, {})):
            before = told()
            wanted = list(before.items()) if isinstance(before, dict) else list(before)
            before.clear()
            again = told()
            self.assertEqual(list(again.items()) if isinstance(again, dict) else again, wanted)


class MatchingTest(unittest.TestCase):

    def setUp(self):
        self.meeting = Meeting(OFFICE, [ANN, BOB, CLEO], {"a": 1, "b": 1})

    def test_would_rather(self):
        meeting = self.meeting
        self.assertEqual(would_rather(meeting, {}), [("ann", "a"), ("ann", "b"), ("bob", "b"), ("bob", "a"),
                                                     ("cleo", "a")])
        self.assertEqual(would_rather(meeting, {"bob": "a", "ann": "b"}), [("cleo", "a")])
        self.assertEqual(would_rather(meeting, {"cleo": "a", "bob": "b"}), [("ann", "b")])
        self.assertEqual(would_rather(meeting=meeting, matching={"cleo": "a", "ann": "b"}), [])

    def test_no_places_no_pairs(self):
        meeting = Meeting(OFFICE, [ANN], {"a": 0})
        self.assertEqual(would_rather(meeting, {}), [])
        self.assertIs(is_stable(meeting, {}), True)

    def test_against_all_matchings(self):
        for told in small_meetings():
            stable = told.stable()
            for matching in told.matchings():
                self.assertEqual(would_rather(told.meeting, matching), told.would_rather(matching))
                self.assertIs(is_stable(told.meeting, matching), matching in stable)

    def test_the_order_of_a_matching_is_free(self):
        for told in small_meetings(7, 20):
            matching = dict(reversed(list(told.best().items())))
            self.assertEqual(would_rather(told.meeting, matching), [])
            self.assertIs(is_stable(told.meeting, matching), True)

    def test_no_matchings(self):
        meeting = self.meeting
        for thing in odd_objects() + [
                {"dan": "a"}, {"ann": None}, {"ann": "c"}, {"cleo": "b"}, {"ann": "a", "bob": "a"}, {"ann": ["a"]},
                {"ann": ("a",)}, {"ann": True}, {None: "a"}, {("ann",): "a"}, [("ann", "a")], {"ann": {}},
                {"ann": "b", "bob": "b"}, {"ann": OFFICE}, {1: "a"}]:
            if thing == {}:
                continue
            self.assertIs(is_stable(meeting, thing), False)
            with self.assertRaises(BadMatching) as caught:
                would_rather(meeting, thing)
            self.assertIs(caught.exception.thing, thing)

    def test_a_kind_that_is_let_but_has_no_place(self):
        meeting = Meeting(OFFICE, [ANN], {"b": 1})
        with self.assertRaises(BadMatching):
            would_rather(meeting, {"ann": "a"})
        self.assertIs(is_stable(meeting, {"ann": "a"}), False)

    def test_what_is_passed_stays(self):
        matching = {"cleo": "a", "ann": "b"}
        would_rather(self.meeting, matching)
        is_stable(self.meeting, matching)
        self.assertEqual(list(matching.items()), [("cleo", "a"), ("ann", "b")])


class BestTest(unittest.TestCase):

    def test_best_of_both_sides(self):
        meeting = Meeting(OFFICE, [ANN, BOB], {"a": 1, "b": 1})
        self.assertEqual(best(meeting), {"ann": "a", "bob": "b"})
        self.assertEqual(best(meeting, "people"), {"ann": "a", "bob": "b"})
        self.assertEqual(best(meeting=meeting, side="kinds"), {"ann": "b", "bob": "a"})

    def test_against_all_matchings(self):
        for told in small_meetings():
            for given, wanted in [(best(told.meeting), told.best()), (best(told.meeting, "kinds"), told.worst())]:
                self.assertEqual(list(given.items()), list(wanted.items()))

    def test_big_ones(self):
        for told in big_meetings()[:2]:
            stable = full_stable(told)
            for name, kind in best(told.meeting).items():
                self.assertEqual(kind, min((one[name] for one in stable), key=told.wishes[name].index))
            for name, kind in best(told.meeting, "kinds").items():
                self.assertEqual(kind, max((one[name] for one in stable), key=told.wishes[name].index))

    def test_great_numbers_of_places(self):
        meeting = Meeting(OFFICE, [ANN, BOB, CLEO], {"a": 10 ** 18, "b": 10 ** 30})
        wanted = {"ann": "a", "bob": "b", "cleo": "a"}
        self.assertEqual([best(meeting), best(meeting, "kinds")], [wanted, wanted])
        self.assertIs(is_stable(meeting, wanted), True)
        self.assertEqual(refusals(meeting), [])

    def test_bad_sides(self):
        meeting = Meeting(OFFICE, [ANN], {"a": 1})
        for thing in odd_objects() + ["person", "kind", ["people"], ("kinds",), "People"]:
            with self.assertRaises(BadSide) as caught:
                best(meeting, thing)
            self.assertIs(caught.exception.side, thing)

    def test_facts(self):
        """All place the same people, of each kind as many; kinds not full have the same ones."""
        for told in small_meetings(11) + big_meetings():
            one = best(told.meeting)
            for matching in told.stable() if len(told.people) < 6 else full_stable(told):
                self.assertEqual(list(matching), list(one))
                for kind in told.ranks:
                    ours = [name for name in matching if matching[name] == kind]
                    theirs = [name for name in one if one[name] == kind]
                    self.assertEqual(len(ours), len(theirs))
                    if len(ours) < told.free.get(kind, 0):
                        self.assertEqual(ours, theirs)

    def test_a_kind_would_take_one_set_whole(self):
        for told in small_meetings(12) + big_meetings():
            found = told.stable() if len(told.people) < 6 else full_stable(told)
            for one in found:
                for other in found:
                    for kind in told.ranks:
                        rank = told.rank(kind)
                        ours = [rank.index(name) for name in rank if one.get(name) == kind]
                        theirs = [rank.index(name) for name in rank if other.get(name) == kind]
                        signs = {(a > b) - (a < b) for a, b in zip(ours, theirs)}
                        self.assertFalse({1, -1} <= signs)

    def test_the_round_of_a_course_is_the_best_one(self):
        draw = Draw(21)
        met = 0
        for number in range(800):
            ranks = ALL_RANKS[number % len(ALL_RANKS)]
            events = draw.events(ranks, 12)
            naive, run = Naive(ranks, events), run_of(Course(Office(ranks), events))
            for time in naive.rounds:
                waited, _ = naive.behind(time - 1)
                people = [(one["name"], one["wishes"], one["points"], one["home"])
                          for one in sorted(waited, key=lambda one: one["time"])]
                given = best(Meeting(Office(ranks), people, naive.free(time - 1)))
                self.assertEqual([letter for letter in run.letters() if letter[0] == time],
                                 [(time, name, given[name]) for name in given])
                met += len(given) > 1
        self.assertGreater(met, 20)


class RefusalsTest(unittest.TestCase):

    def test_a_paper_refuses_what_is_liked_more(self):
        for told in small_meetings() + big_meetings():
            paper = refusals(told.meeting)
            self.assertTrue(is_paper(told, paper), paper)
            self.assertIs(is_refusals(told.meeting, paper), True)
            given = best(told.meeting)
            for name, wishes in told.wishes.items():
                refused = [kind for person, kind, _ in paper if person == name]
                left = [kind for kind in wishes if kind not in refused]
                self.assertEqual(given.get(name), left[0] if left else None)
            for triple in paper:
                self.assertIsInstance(triple, tuple)
                self.assertIsInstance(triple[2], tuple)

    def test_no_stable_matching_has_a_refused_pair(self):
        for told in small_meetings(13, 60):
            for name, kind, _ in refusals(told.meeting):
                for matching in told.stable():
                    self.assertNotEqual(matching.get(name), kind)

    def test_equal_meetings_have_equal_papers(self):
        for told in small_meetings(14, 40):
            again = Told(told.ranks, told.people, dict(reversed(list(told.free.items()))))
            self.assertEqual(refusals(told.meeting), refusals(again.meeting))

    def test_papers(self):
        meeting = Meeting(OFFICE, [ANN, BOB, CLEO, ("dan", ["c", "a"], 4, None)], {"a": 1, "b": 1})
        for paper in [[], (), [("ann", "a", ("cleo",))], [("bob", "a", ["cleo"])], [["ann", "a", ["cleo"]]],
                      [("bob", "b", ("ann",))][:0], [("dan", "c", ())],
                      [("dan", "c", ()), ("cleo", "a", ("dan",))],
                      [("ann", "a", ("cleo",)), ("bob", "b", ("ann",))],
                      [("ann", "a", ("cleo",)), ("ann", "a", ("cleo",))]]:
            self.assertIs(is_refusals(meeting, paper), True, paper)
        for paper in odd_objects() + [
                [("bob", "b", ("ann",))], [("cleo", "a", ("dan",))], [("cleo", "a", ("dan",)), ("dan", "c", ())],
                [("ann", "a", ("bob",))], [("ann", "a", ())], [("ann", "a", ("cleo", "dan"))],
                [("ann", "a", ("ann",))], [("ann", "c", ())], [("eve", "a", ("cleo",))], [("ann", "d", ())],
                [("ann", "a", "cleo")], [("ann", "a", ("cleo",), None)], [("ann", "a")], ["ann"], [None],
                [("ann", "a", ("eve",))], [("cleo", "a", ("ann",))], {"ann": "a"}, [(["ann"], "a", ("cleo",))],
                [("ann", ["a"], ("cleo",))], [("ann", "a", (["cleo"],))], [("ann", "a", (None,))],
                [("ann", "b", ("bob",))], [("ann", True, ())], "", [("ann", "a", ("cleo",)), 3]]:
            if paper in ([], ()):
                continue
            self.assertIs(is_refusals(meeting, paper), False, paper)

    def test_strings_and_dicts_are_no_lists_of_others(self):
        meeting = Meeting(Office({"a": ["points"]}), [("x", ["a"], 1, None), ("y", ["a"], 2, None)], {"a": 1})
        for others in (["y"], ("y",)):
            self.assertIs(is_refusals(meeting, [("x", "a", others)]), True)
        for others in ("y", {"y": 1}, None, 1, True, meeting):
            self.assertIs(is_refusals(meeting, [("x", "a", others)]), False)

    def test_others_are_unlike(self):
        meeting = Meeting(OFFICE, [ANN, CLEO, ("dan", ["a"], 4, None)], {"a": 2})
        self.assertIs(is_refusals(meeting, [("ann", "a", ("cleo", "dan"))]), True)
        self.assertIs(is_refusals(meeting, [("ann", "a", ("dan", "cleo"))]), True)
        self.assertIs(is_refusals(meeting, [("ann", "a", ("cleo", "cleo"))]), False)
        self.assertIs(is_refusals(meeting, [("ann", "a", ("cleo",))]), False)

    def test_bent_papers_by_a_look_of_their_own(self):
        bent = kept = 0
        for told in small_meetings(15) + big_meetings():
            paper = refusals(told.meeting)
            for changed in bends(told, paper):
                self.assertIs(is_refusals(told.meeting, changed), is_paper(told, changed), changed)
                bent += not is_paper(told, changed)
                kept += is_paper(told, changed)
        self.assertGreater(bent, 300)
        self.assertGreater(kept, 50)


def bends(told, paper):
    """Papers that are a little otherwise."""
    found = [paper[::-1]]
    for number, (name, kind, others) in enumerate(paper):
        found.append(paper[:number] + paper[number + 1:])
        found.append(paper[number:] + paper[:number])
        for other in told.wishes:
            found.append(paper[:number] + [(other, kind, others)] + paper[number + 1:])
            if others:
                found.append(paper[:number] + [(name, kind, (other,) + others[1:])] + paper[number + 1:])
        for other in told.ranks:
            found.append(paper[:number] + [(name, other, others)] + paper[number + 1:])
        found.append(paper + [(name, kind, others + (name,))])
    return found


def is_paper(told, paper):
    """The words of [5.4], for triples of people, kinds and tuples of people."""
    for number, (name, kind, others) in enumerate(paper):
        if kind not in told.wishes[name] or len(set(others)) < len(others):
            return False
        if len(others) != told.free.get(kind, 0):
            return False
        rank = told.rank(kind)
        for other in others:
            if other not in rank or rank.index(other) >= rank.index(name):
                return False
            for better in told.wishes[other]:
                if told.likes(other, better, kind):
                    if not any(person == other and refused == better for person, refused, _ in paper[:number]):
                        return False
    return True


if __name__ == "__main__":
    unittest.main()
