"""[14.1] to [14.3]: a live office."""

import unittest

from samples import ALL_RANKS, TWO, Draw, odd_objects
from seatroads.courses import Course
from seatroads.errors import BadFee, BadTruth, Nothing
from seatroads.ledgers import Ledger, ledger_of
from seatroads.live import Desk
from seatroads.offices import Office
from seatroads.reach import gone_and_come
from seatroads.runs import run_of

OFFICE = Office({"red": []})
FEES = (3, {"red": 5})
DEEDS = [("put", 1, ("place", "red")), ("put", 3, ("come", "bob", ("red",), 0, None)),
         ("put", 2, ("come", "ann", ("red",), 0, None)), ("put", 4, ("place", "red"))]


def told_desk(deeds=tuple(DEEDS)):
    desk = Desk(OFFICE, FEES)
    for truth in deeds:
        desk.tell(truth)
    return desk


def state(desk):
    """All that can be asked of a desk without a change."""
    return desk.course(), desk.run(), desk.told(), len(desk), desk.ledger()


def full_state(desk):
    """The state, and what can be done again, found by a copy."""
    copy, redone = desk.copy(), []
    try:
        while True:
            redone.append(copy.again())
    except Nothing:
        return state(desk) + (redone,)


class DeskTest(unittest.TestCase):

    def test_told(self):
        desk = Desk(office=OFFICE, fees=FEES)
        self.assertEqual(desk.course(), Course(OFFICE, {}))
        self.assertEqual((desk.told(), len(desk), desk.ledger()), ([], 0, Ledger()))
        self.assertEqual(desk.tell(DEEDS[0]), ([], []))
        self.assertEqual(desk.tell(truth=DEEDS[1]), ([], [(3, "bob", "red")]))
        self.assertEqual(desk.tell(list(DEEDS[2])), ([(3, "bob", "red")], [(2, "ann", "red")]))
        self.assertEqual(desk.tell(DEEDS[3]), ([], [(4, "bob", "red")]))
        self.assertEqual(desk.run().letters(), [(2, "ann", "red"), (4, "bob", "red")])
        self.assertEqual(desk.course(), Course(OFFICE, {truth[1]: truth[2] for truth in DEEDS}))
        self.assertEqual(desk.told(), DEEDS)
        self.assertEqual(len(desk), 4)

    def test_bad_fees(self):
        for fees, thing in [(None, None), ((1,), (1,)), ((1, {}, 2), (1, {}, 2)), ((-1, None), -1), ((True, {}), True),
                            ((10 ** 6 + 1, {}), 10 ** 6 + 1), ((1, None), None), ((1, []), []), ((1, {"red": 1, "X": 1}), "X"),
                            ((1, {"blue": 1, "red": -1}), "red"), ((1, {None: 1}), None), ({}, {}), ("ab", "ab")]:
            with self.assertRaises(BadFee) as caught:
                Desk(OFFICE, fees)
            self.assertEqual(caught.exception.thing, thing)
        # Fees of kinds that the office has not are let.
        self.assertEqual(len(Desk(OFFICE, [0, {"blue": 10 ** 6}])), 0)

    def test_bad_truths(self):
        desk = told_desk()
        before = full_state(desk)
        for thing in odd_objects() + [("put", 1, ("place", "red")), ("strike", 9), ("alter", 9, ("place", "red")),
                                      ("put", 9, ("place", "blue")), ("put", 9, ("come", "ann", (), 0, None)),
                                      ("alter", 1, ("come", "bob", (), 0, None)), ("put", -1, ("place", "red")), DEEDS]:
            with self.assertRaises(BadTruth) as caught:
                desk.tell(thing)
            self.assertEqual(caught.exception.index, 0)
        self.assertEqual(full_state(desk), before)

    def test_a_bad_deed_leaves_what_can_be_done_again(self):
        desk = told_desk()
        desk.undo()
        with self.assertRaises(BadTruth):
            desk.tell(("strike", 9))
        self.assertEqual(desk.again(), DEEDS[3])

    def test_gathers_and_rounds(self):
        desk = told_desk([("put", 5, ("gather",)), ("put", 6, ("come", "x", ("red",), 0, None)), ("put", 7, ("place", "red"))])
        self.assertEqual(desk.tell(("put", 8, ("round",))), ([], [(8, "x", "red")]))
        self.assertEqual(desk.tell(("strike", 5)), ([(8, "x", "red")], [(7, "x", "red")]))

    def test_what_is_passed_can_change_later(self):
        table, truth = {"red": 5}, ["put", 1, ["come", "x", ["red"], 0, None]]
        fees = [3, table]
        desk = Desk(OFFICE, fees)
        desk.tell(truth)
        self.assertEqual((fees, truth), ([3, {"red": 5}], ["put", 1, ["come", "x", ["red"], 0, None]]))
        table["red"] = 9
        fees[0] = 0
        truth[2][2].clear()
        desk.tell(("put", 2, ("place", "red")))
        self.assertEqual(desk.ledger(), ledger_of(OFFICE, [
            (1, [("put", 1, ("come", "x", ("red",), 0, None))]), (2, [("put", 2, ("place", "red"))])], (3, {"red": 5})))
        self.assertEqual(desk.told()[0], ("put", 1, ("come", "x", ("red",), 0, None)))

    def test_what_is_returned_is_new(self):
        desk = told_desk()
        desk.told().clear()
        desk.run().letters().clear()
        desk.course().events().clear()
        desk.tell(("strike", 1))[0].clear()
        self.assertEqual((len(desk.told()), len(desk)), (5, 5))
        self.assertEqual(full_state(desk), full_state(told_desk(DEEDS + [("strike", 1)])))


class BooksTest(unittest.TestCase):

    def test_each_deed_is_known_from_its_number_on(self):
        desk = told_desk()
        self.assertEqual(desk.ledger(), ledger_of(OFFICE, [(number + 1, [truth]) for number, truth in enumerate(DEEDS)], FEES))
        self.assertEqual({deed[1] for deed in desk.ledger().deeds()}, {2, 3, 4})
        desk.undo()
        desk.undo()
        desk.tell(("put", 4, ("place", "red")))
        self.assertEqual(desk.told(), DEEDS[:2] + DEEDS[3:])
        self.assertEqual(desk.ledger(), ledger_of(OFFICE, [
            (1, [DEEDS[0]]), (2, [DEEDS[1]]), (3, [DEEDS[3]])], FEES))

    def test_drawn_deeds_held_against_truths_heard_at_once(self):
        draw = Draw(250)
        for number in range(40):
            ranks = ALL_RANKS[number % len(ALL_RANKS)]
            fees = (draw.rng.randint(0, 9), {kind: draw.rng.randint(0, 9) for kind in ranks})
            office = Office(ranks)
            desk, course = Desk(office, fees), Course(office, {})
            truths = draw.truths(ranks, {}, 16, moving=True)
            for truth in truths:
                self.assertEqual(desk.tell(truth), gone_and_come(course, [truth]))
                course = course.with_truths([truth])
                self.assertEqual((desk.course(), desk.run()), (course, run_of(course)))
            self.assertEqual(desk.course(), Course(office, {}).with_truths(truths))
            self.assertEqual(desk.told(), truths)
            self.assertEqual(desk.ledger(), ledger_of(
                office, [(index + 1, [truth]) for index, truth in enumerate(truths)], fees))
            # The balances hang on the truths that stand alone: known at the end they are those of the course's own books.
            at_once = ledger_of(office, [(1, truths)], fees)
            for time in range(0, 20, 3):
                self.assertEqual(desk.ledger().balances(10 ** 6, time), at_once.balances(10 ** 6, time))

    def test_in_any_order_in_which_each_can_be_told(self):
        draw = Draw(251)
        for number in range(30):
            ranks = ALL_RANKS[number % len(ALL_RANKS)]
            truths = [("put", time, event) for time, event in draw.events(ranks, 10).items()]
            desks = []
            for _ in range(3):
                desk = Desk(Office(ranks), (1, {}))
                for truth in draw.rng.sample(truths, len(truths)):
                    desk.tell(truth)
                desks.append(desk)
            self.assertEqual(desks[0].course(), desks[1].course())
            self.assertEqual(desks[0].run(), desks[2].run())
            self.assertEqual(desks[0].ledger().balances(10 ** 6, 10 ** 6), desks[1].ledger().balances(10 ** 6, 10 ** 6))

    def test_sixty_deeds(self):
        draw = Draw(252)
        desk = Desk(Office(TWO), (2, {"a": 1}))
        truths = draw.truths(TWO, {}, 60, moving=True)
        for truth in truths:
            desk.tell(truth)
        self.assertEqual((len(desk), desk.course()), (60, Course(Office(TWO), {}).with_truths(truths)))
        self.assertEqual(desk.ledger().balances(60, 10 ** 6), ledger_of(
            Office(TWO), [(1, truths)], (2, {"a": 1})).balances(60, 10 ** 6))
        for truth in truths[::-1]:
            self.assertEqual(desk.undo(), truth)
        self.assertEqual(len(desk), 0)


class TakenBackTest(unittest.TestCase):

    def test_undo_and_again(self):
        desk = told_desk()
        self.assertEqual(desk.undo(), DEEDS[3])
        self.assertEqual(desk.undo(), DEEDS[2])
        self.assertEqual(state(desk), state(told_desk(DEEDS[:2])))
        self.assertEqual(desk.again(), DEEDS[2])
        self.assertEqual(state(desk), state(told_desk(DEEDS[:3])))
        self.assertEqual(desk.again(), DEEDS[3])
        self.assertEqual(full_state(desk), full_state(told_desk()))

    def test_nothing(self):
        desk = Desk(OFFICE, FEES)
        for call in (desk.undo, desk.again):
            with self.assertRaises(Nothing):
                call()
        desk.tell(DEEDS[0])
        with self.assertRaises(Nothing):
            desk.again()
        desk.undo()
        with self.assertRaises(Nothing):
            desk.undo()
        self.assertEqual(desk.again(), DEEDS[0])
        with self.assertRaises(Nothing):
            desk.again()

    def test_a_new_deed_makes_that_none_can_be_done_again(self):
        desk = told_desk()
        desk.undo()
        desk.undo()
        desk.tell(DEEDS[3])
        with self.assertRaises(Nothing):
            desk.again()
        self.assertEqual(desk.told(), DEEDS[:2] + DEEDS[3:])
        self.assertEqual([desk.undo(), desk.undo(), desk.undo()], [DEEDS[3], DEEDS[1], DEEDS[0]])

    def test_tuples_throughout(self):
        desk = Desk(OFFICE, FEES)
        desk.tell(["put", 1, ["come", "x", ["red"], 0, None]])
        wanted = ("put", 1, ("come", "x", ("red",), 0, None))
        for told in (desk.told()[0], desk.undo(), desk.again()):
            self.assertEqual(told, wanted)
            self.assertEqual([type(told), type(told[2]), type(told[2][2])], [tuple] * 3)

    def test_copies_go_on_apart(self):
        desk = told_desk()
        desk.undo()
        copy = desk.copy()
        self.assertIsInstance(copy, Desk)
        self.assertEqual(full_state(copy), full_state(desk))
        self.assertEqual(copy.again(), DEEDS[3])
        copy.tell(("strike", 1))
        self.assertEqual(full_state(desk), full_state(told_desk(DEEDS[:3]))[:-1] + ([DEEDS[3]],))
        desk.undo()
        self.assertEqual(copy.told(), DEEDS + [("strike", 1)])
        self.assertEqual(desk.again(), DEEDS[2])

    def test_a_trial_returns_and_leaves_all_as_it_was(self):
        desk = told_desk()
        desk.undo()
        before = full_state(desk)

        def work(same):
            self.assertIs(same, desk)
            same.again()
            same.tell(("strike", 1))
            same.undo()
            same.undo()
            same.undo()
            same.tell(("put", 7, ("gather",)))
            return same.told()

        self.assertEqual(desk.trial(work=work), DEEDS[:2] + [("put", 7, ("gather",))])
        self.assertEqual(full_state(desk), before)
        thing = object()
        self.assertIs(desk.trial(lambda same: thing), thing)

    def test_a_trial_that_an_error_leaves(self):
        desk = told_desk()
        desk.undo()
        before = full_state(desk)

        def work(same):
            same.tell(("strike", 1))
            same.undo()
            same.undo()
            same.tell(None)

        with self.assertRaises(BadTruth):
            desk.trial(work)
        self.assertEqual(full_state(desk), before)
        with self.assertRaises(ZeroDivisionError):
            desk.trial(lambda same: same.again() and 1 // 0)
        self.assertEqual(full_state(desk), before)

    def test_trials_in_trials(self):
        desk = told_desk()

        def inner(same):
            same.undo()
            return len(same)

        def outer(same):
            same.undo()
            self.assertEqual(same.trial(inner), 2)
            return len(same), same.again()

        self.assertEqual(desk.trial(outer), (3, DEEDS[3]))
        self.assertEqual(full_state(desk), full_state(told_desk()))

    def test_what_is_taken_back_has_never_been(self):
        draw = Draw(253)
        for number in range(40):
            ranks = ALL_RANKS[number % len(ALL_RANKS)]
            office = Office(ranks)
            desk = Desk(office, (1, {}))
            done, undone = [], []
            for _ in range(30):
                word = draw.rng.choice(["tell", "tell", "tell", "undo", "undo", "again", "copy", "trial"])
                if word == "tell":
                    truth = draw.truth(ranks, desk.course().events(), moving=True)
                    before = desk.run().letters()
                    struck, new = desk.tell(truth)
                    after = desk.run().letters()
                    self.assertEqual(struck, sorted(letter for letter in before if letter not in after))
                    self.assertEqual(new, sorted(letter for letter in after if letter not in before))
                    done, undone = done + [truth], []
                elif word == "copy":
                    left, desk = desk, desk.copy()
                    left.tell(draw.truth(ranks, left.course().events()))
                elif word == "trial":
                    events = desk.course().events()
                    desk.trial(lambda same: same.tell(draw.truth(ranks, events)))
                elif word == "undo":
                    if done:
                        undone.append(done[-1])
                        self.assertEqual(desk.undo(), done.pop())
                    else:
                        self.assertRaises(Nothing, desk.undo)
                elif undone:
                    done.append(undone[-1])
                    self.assertEqual(desk.again(), undone.pop())
                else:
                    self.assertRaises(Nothing, desk.again)
                self.assertEqual((desk.told(), len(desk)), (done, len(done)))
                self.assertEqual(desk.course(), Course(office, {}).with_truths(done))
                self.assertEqual(desk.run(), run_of(desk.course()))
            fresh = Desk(office, (1, {}))
            for truth in done:
                fresh.tell(truth)
            self.assertEqual(state(desk), state(fresh))
            self.assertEqual(full_state(desk)[-1], undone[::-1])


if __name__ == "__main__":
    unittest.main()
