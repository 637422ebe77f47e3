"""[4.2], [4.3]: tokens and roads."""

import unittest

from oracle import Naive, naive_pairs, naive_token
from samples import ALL_RANKS, SMALL, TWO, Draw, can_be_heard, odd_objects, rows, timed
from seatroads.courses import Course
from seatroads.errors import BadTime, BadTruth, NoRoad
from seatroads.offices import Office
from seatroads.roads import Road, roads
from seatroads.runs import run_of


def come(name, wishes, points=0, home=None):
    return ("come", name, tuple(wishes), points, home)


def told(course, truths):
    return [(road.truth, road.higher, road.steps) for road in roads(course, truths)]


def steps_of(high, low, last):
    """The steps between two naive runs, one higher than the other or even at every time."""
    steps, before = [], None
    for time in range(last + 1):
        after = naive_token(high, low, time)
        if after != before:
            steps.append((time, before, after))
        before = after
    return tuple(steps)


class RoadTest(unittest.TestCase):

    def setUp(self):
        self.office = Office({"a": ["points"], "b": []})
        self.course = Course(self.office, {
            10: ("place", "a"), 20: come("x", "a"), 30: come("y", "ab", 2), 40: come("z", "a", 1), 50: ("place", "b"),
            60: ("place", "a")})

    def road(self, truth):
        road, = roads(self.course, [truth])
        self.assertIsInstance(road, Road)
        self.assertEqual(road.truth, 0)
        return road.higher, road.steps

    def test_the_kinds(self):
        made = roads(course=self.course, truths=[("strike", 20)])
        self.assertIsInstance(made, list)
        self.assertIsInstance(made[0].steps, tuple)
        self.assertEqual([type(step) for step in made[0].steps], [tuple] * len(made[0].steps))

    def test_no_truths(self):
        self.assertEqual(roads(self.course, []), [])
        self.assertEqual(roads(self.course, ()), [])

    def test_a_come_put(self):
        self.assertEqual(self.road(("put", 15, come("w", "ab"))), ("new", (
            (15, None, ("free", "a")), (20, ("free", "a"), ("waits", "x")))))
        self.assertEqual(self.road(("put", 45, come("w", "ab"))), ("new", ((45, None, ("waits", "w")),)))
        self.assertEqual(self.road(("put", 45, come("w", "ab", 9))), ("new", (
            (45, None, ("waits", "w")), (60, ("waits", "w"), ("waits", "z")))))

    def test_a_come_struck(self):
        self.assertEqual(self.road(("strike", 20)), ("old", (
            (20, None, ("free", "a")), (30, ("free", "a"), ("waits", "y")), (50, ("waits", "y"), ("free", "b")))))
        self.assertEqual(self.road(("strike", 40)), ("old", (
            (40, None, ("waits", "z")), (60, ("waits", "z"), ("free", "a")))))

    def test_a_place_put_and_struck(self):
        self.assertEqual(self.road(("put", 5, ("place", "b"))), ("old", (
            (5, None, ("free", "b")), (30, ("free", "b"), ("waits", "y")), (50, ("waits", "y"), ("free", "b")))))
        self.assertEqual(self.road(("strike", 10)), ("new", (
            (10, None, ("free", "a")), (20, ("free", "a"), ("waits", "x")))))

    def test_a_withdraw_put_and_struck(self):
        self.assertEqual(self.road(("put", 15, ("withdraw", "a"))), ("new", (
            (15, None, ("free", "a")), (20, ("free", "a"), ("waits", "x")))))
        self.assertEqual(self.road(("put", 15, ("withdraw", "b"))), ("new", ()))
        self.course = self.course.with_truths([("put", 15, ("withdraw", "a"))])
        self.assertEqual(self.road(("strike", 15)), ("old", (
            (15, None, ("free", "a")), (20, ("free", "a"), ("waits", "x")))))

    def test_a_leave_put_and_struck(self):
        self.assertEqual(self.road(("put", 45, ("leave", "y"))), ("old", (
            (45, None, ("waits", "y")), (50, ("waits", "y"), ("free", "b")))))
        self.assertEqual(self.road(("put", 45, ("leave", "x"))), ("old", ()))
        self.course = self.course.with_truths([("put", 45, ("leave", "z"))])
        self.assertEqual(self.road(("strike", 45)), ("new", (
            (45, None, ("waits", "z")), (60, ("waits", "z"), ("free", "a")))))

    def test_a_change_put_and_struck(self):
        self.assertEqual(told(self.course, [("put", 45, ("change", "y", ("a",)))]), [
            (0, "old", ((45, None, ("waits", "y")), (50, ("waits", "y"), ("free", "b")))),
            (0, "new", ((45, None, ("waits", "y")), (60, ("waits", "y"), ("waits", "z"))))])
        course = self.course.with_truths([("put", 45, ("change", "y", ("a",)))])
        self.assertEqual(told(course, [("strike", 45)]), [
            (0, "old", ((45, None, ("waits", "y")), (60, ("waits", "y"), ("waits", "z")))),
            (0, "new", ((45, None, ("waits", "y")), (50, ("waits", "y"), ("free", "b"))))])

    def test_a_change_of_nobody_has_two_roads_without_steps(self):
        self.assertEqual(told(self.course, [("put", 45, ("change", "x", ("b",)))]), [(0, "old", ()), (0, "new", ())])
        self.assertEqual(told(self.course, [("put", 45, ("change", "q", ("b",))), ("strike", 45)]),
                         [(0, "old", ()), (0, "new", ()), (1, "old", ()), (1, "new", ())])

    def test_an_alter_has_the_roads_of_the_strike_and_then_of_the_put(self):
        self.assertEqual(told(self.course, [("alter", 20, ("place", "b"))]), [
            (0, "old", ((20, None, ("free", "a")), (30, ("free", "a"), ("waits", "y")),
                        (50, ("waits", "y"), ("free", "b")))),
            (0, "old", ((20, None, ("free", "b")),))])
        for old, new, higher in [
            (come("q", "a"), come("q", "b"), ["old", "new"]),
            (("place", "a"), ("withdraw", "a"), ["new", "new"]),
            (("leave", "y"), ("change", "y", ("a",)), ["new", "old", "new"]),
            (("change", "y", ("a",)), ("change", "y", ("b",)), ["old", "new", "old", "new"]),
            (("change", "y", ("a",)), ("leave", "z"), ["old", "new", "old"]),
            (("withdraw", "a"), ("place", "a"), ["old", "old"]),
        ]:
            course = self.course.with_truths([("put", 45, old)])
            self.assertEqual([road.higher for road in roads(course, [("alter", 45, new)])], higher)

    def test_truths_are_numbered_and_heard_one_after_another(self):
        truths = [("strike", 40), ("put", 45, ("change", "y", ("a",))), ("strike", 20), ("alter", 50, ("place", "a"))]
        made = told(self.course, truths)
        self.assertEqual([row[0] for row in made], [0, 1, 1, 2, 3, 3])
        course, singly = self.course, []
        for number, truth in enumerate(truths):
            singly.extend((number, higher, steps) for _, higher, steps in told(course, [truth]))
            course = course.with_truths([truth])
        self.assertEqual(made, singly)

    def test_at_and_end(self):
        road, = roads(self.course, [("strike", 20)])
        for time, token in [(0, None), (19, None), (20, ("free", "a")), (29, ("free", "a")), (30, ("waits", "y")),
                            (49, ("waits", "y")), (50, ("free", "b")), (51, ("free", "b")), (10 ** 6, ("free", "b"))]:
            self.assertEqual(road.at(time), token)
            self.assertEqual(road.at(time=time), token)
        self.assertEqual(road.end(), ("free", "b"))

    def test_at_and_end_of_a_road_that_comes_to_its_end(self):
        course = self.course.with_truths([("put", 55, ("withdraw", "b")), ("put", 57, ("withdraw", "b"))])
        road, = roads(course, [("put", 5, ("place", "b"))])
        self.assertEqual(road.steps, ((5, None, ("free", "b")), (30, ("free", "b"), ("waits", "y")),
                                      (50, ("waits", "y"), ("free", "b")), (55, ("free", "b"), None)))
        self.assertIsNone(road.at(55))
        self.assertIsNone(road.end())

    def test_at_and_end_of_no_steps(self):
        road, = roads(self.course, [("put", 5, ("leave", "y"))])
        self.assertEqual(road.steps, ())
        self.assertIsNone(road.at(0))
        self.assertIsNone(road.at(10 ** 6))
        self.assertIsNone(road.end())

    def test_bad_times(self):
        for truth in [("strike", 20), ("put", 5, ("leave", "y"))]:
            road, = roads(self.course, [truth])
            for time in odd_objects() + [-1, 10 ** 6 + 1, "20", [20], True, False]:
                with self.assertRaises(BadTime) as caught:
                    road.at(time)
                self.assertIs(caught.exception.time, time)

    def test_roads_at_the_ends_of_time(self):
        course = Course(self.office, {0: come("x", "a"), 10 ** 6: ("place", "a")})
        self.assertEqual(told(course, [("strike", 0)]), [
            (0, "old", ((0, None, ("waits", "x")), (10 ** 6, ("waits", "x"), ("free", "a"))))])
        road, = roads(course, [("strike", 10 ** 6)])
        self.assertEqual((road.at(10 ** 6 - 1), road.at(10 ** 6), road.end()), (None, ("waits", "x"), ("waits", "x")))

    def test_amid_gathered_lists_a_token_stays_and_goes_on_at_the_round(self):
        course = Course(Office(TWO), {
            1: ("gather",), 2: come("x", "ab", 1), 3: come("y", "ab", 2), 4: come("z", "b", 3), 5: ("place", "a"),
            6: ("place", "b"), 7: ("round",)})
        self.assertEqual(told(course, [("strike", 3)]), [(0, "old", ((3, None, ("waits", "y")),
                                                                     (7, ("waits", "y"), ("waits", "z"))))])
        self.assertEqual(told(course, [("strike", 5)]), [(0, "new", ((5, None, ("free", "a")),
                                                                     (7, ("free", "a"), ("waits", "y"))))])

    def test_what_is_passed_stays_and_may_change_later(self):
        wishes = ["a", "b"]
        truth = ["put", 15, ["come", "w", wishes, 0, None]]
        truths = [truth]
        made = roads(self.course, truths)
        before = [(road.truth, road.higher, road.steps) for road in made]
        self.assertEqual(truths, [["put", 15, ["come", "w", ["a", "b"], 0, None]]])
        wishes.clear()
        truth[1] = 16
        truths.clear()
        self.assertEqual([(road.truth, road.higher, road.steps) for road in made], before)
        self.assertEqual(made[0].at(15), ("free", "a"))
        made.clear()
        self.assertEqual(len(roads(self.course, [("strike", 20)])), 1)


class ErrorsTest(unittest.TestCase):

    def setUp(self):
        self.course = Course(Office({"a": []}), {1: ("gather",), 2: come("x", "a"), 3: ("round",), 4: ("place", "a")})

    def bad(self, error, truths):
        with self.assertRaises(error) as caught:
            roads(self.course, truths)
        return caught.exception.index

    def test_no_road(self):
        for truth in [("strike", 1), ("strike", 3), ("put", 7, ("gather",)), ("put", 7, ["round"]),
                      ("alter", 1, ("place", "a")), ("alter", 3, ("gather",)), ("alter", 2, ("gather",)),
                      ["alter", 4, ["round"]], ("alter", 1, ("gather",)), ("put", 0, ("round",))]:
            self.assertEqual(self.bad(NoRoad, [truth]), 0)
            self.assertEqual(self.bad(NoRoad, (("put", 8, ("place", "a")), truth)), 1)

    def test_the_first_one(self):
        self.assertEqual(self.bad(NoRoad, [("strike", 2), ("strike", 3), ("strike", 1)]), 1)
        self.assertEqual(self.bad(NoRoad, [("strike", 2), ("put", 2, ("gather",)), ("strike", 2)]), 1)

    def test_bad_truths_are_ahead_of_no_road(self):
        self.assertEqual(self.bad(BadTruth, [("strike", 1), ("strike", 9)]), 1)
        self.assertEqual(self.bad(BadTruth, [("strike", 1), ("strike", 3), None, ("strike", 9)]), 2)
        self.assertEqual(self.bad(BadTruth, [("strike", 1), ("strike", 1)]), 1)
        self.assertEqual(self.bad(BadTruth, [("put", 9, come("x", "a")), ("strike", 1)]), 0)

    def test_bad_truths(self):
        for thing in odd_objects():
            if not isinstance(thing, (list, tuple)):
                self.assertEqual(self.bad(BadTruth, thing), 0)
            self.assertEqual(self.bad(BadTruth, [thing]), 0)
            self.assertEqual(self.bad(BadTruth, [("strike", 2), thing]), 1)


class AgainstRunsTest(unittest.TestCase):
    """Roads held against the two runs of each of them, at every time."""

    def check(self, ranks, events, truth):
        """The roads of one truth; returns whether one of them has steps."""
        pairs = naive_pairs(events, truth)
        made = roads(Course(Office(ranks), events), [truth])
        self.assertEqual(len(made), len(pairs))
        last = max(list(events) + [truth[1]]) + 1
        for road, (before, after, higher) in zip(made, pairs):
            one, other = Naive(ranks, before), Naive(ranks, after)
            high, low = (other, one) if higher == "new" else (one, other)
            self.assertEqual(road.truth, 0)
            self.assertEqual(road.higher, higher, (events, truth))
            self.assertEqual(road.steps, steps_of(high, low, last), (ranks, events, truth))
            self.assertEqual(road.end(), naive_token(high, low, last))
            for time in range(last + 1):
                self.assertEqual(road.at(time), naive_token(high, low, time))
            self.check_letters(road, one, other, last)
        return any(road.steps for road in made)

    def check_letters(self, road, one, other, last):
        """Letters differ at the times of steps, and of rounds to which a token comes, alone."""
        steps = [step[0] for step in road.steps]
        rounds = set(one.rounds) & set(other.rounds)
        for time in range(last + 1):
            letters = [[letter for letter in run.letters if letter[0] == time] for run in (one, other)]
            if letters[0] != letters[1]:
                comes = time in rounds and time > 0 and road.at(time - 1) is not None
                self.assertTrue(time in steps or comes, (road.steps, time))
            if time in steps and time not in rounds:
                self.assertLessEqual(len(letters[0]), 1)
                self.assertLessEqual(len(letters[1]), 1)

    def test_small_courses_gone_through_whole(self):
        putting = [("come", "w", ("b", "a"), 1, "b"), ("place", "b"), ("leave", "x"), ("withdraw", "a"),
                   ("change", "x", ("b", "a"))]
        for length in range(3):
            for row in rows(SMALL, length):
                self.all_truths(TWO, timed(row), putting)

    def all_truths(self, ranks, events, putting):
        for time in range(max(events, default=0) + 2):
            for event in putting:
                for truth in (("put", time, event), ("strike", time), ("alter", time, event)):
                    if can_be_heard(events, truth) and not moves_many(events, truth):
                        self.check(ranks, events, truth)

    def test_strikes_in_all_courses_of_four_events(self):
        ranks = {"a": ["home"], "b": ["late"]}
        for number, row in enumerate(rows(SMALL, 4)):
            events = timed(row)
            truth = ("strike", 1 + 2 * (number % 4))
            if number % 3 == 0 and not moves_many(events, truth):
                self.check(ranks, events, truth)

    def test_drawn_courses_with_every_kind_of_truth(self):
        draw = Draw(5)
        seen = {}
        for number in range(2500):
            ranks = ALL_RANKS[number % 4]
            events = draw.events(ranks, draw.rng.randint(2, 13))
            truth = draw.truth(ranks, events)
            has_steps = self.check(ranks, events, truth)
            for word in words_of(events, truth):
                seen[word] = seen.get(word, 0) + has_steps
        wanted = [(how, word) for how in ("put", "strike", "from", "to")
                  for word in ("come", "place", "leave", "withdraw", "change")]
        self.assertEqual(sorted(seen), sorted(wanted))
        self.assertGreater(min(seen.values()), 5, seen)

    def test_drawn_rounds(self):
        draw = Draw(6)
        for _ in range(400):
            ranks = draw.rng.choice(ALL_RANKS[1:])
            events = {0: ("gather",), 50: ("round",)}
            for number in range(draw.rng.randint(2, 5)):
                events[1 + 2 * number] = draw.come(ranks, "p" + str(number))
            for number in range(draw.rng.randint(1, 4)):
                events[20 + 2 * number] = ("place", draw.rng.choice(sorted(ranks)))
            events[60] = ("place", draw.rng.choice(sorted(ranks)))
            self.check(ranks, events, draw.truth(ranks, events))


def words_of(events, truth):
    """What is put and struck by a truth, for all kinds of truths to be seen."""
    if truth[0] == "put":
        return [("put", truth[2][0])]
    if truth[0] == "strike":
        return [("strike", events[truth[1]][0])]
    return [("from", events[truth[1]][0]), ("to", truth[2][0])]


def moves_many(events, truth):
    """Whether a truth puts or strikes a gather or a round."""
    moved = [] if truth[0] == "put" else [events[truth[1]]]
    moved += [] if truth[0] == "strike" else [truth[2]]
    return any(event[0] in ("gather", "round") for event in moved)


class HigherTest(unittest.TestCase):
    """[4.2] FACT: one event more keeps a token, or makes the runs even."""

    def test_any_two_courses_that_differ_by_a_comer(self):
        for row in rows(SMALL, 3):
            events = timed(row, 3)
            with_one = dict(events)
            with_one[1] = ("come", "w", ("a", "b"), 1, "b")
            high, low = Naive(TWO, with_one), Naive(TWO, events)
            for time in range(10):
                naive_token(high, low, time)

    def test_runs_of_the_program(self):
        draw = Draw(7)
        for number in range(300):
            ranks = ALL_RANKS[number % 4]
            events = draw.events(ranks, 8)
            truth = draw.truth(ranks, events)
            course = Course(Office(ranks), events)
            for road in roads(course, [truth]):
                self.assertIn(road.higher, ("new", "old"))
                for _, before, after in road.steps:
                    self.assertNotEqual(before, after)
            self.assertEqual(run_of(course).letters(), Naive(ranks, events).letters)


if __name__ == "__main__":
    unittest.main()
