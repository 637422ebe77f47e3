"""[6.2] to [6.4], [6.7]: ledgers."""

import unittest

from ledgers_told import DrawLedgers, added
from oracle import Naive, all_heard, naive_pairs
from samples import ALL_RANKS, Draw, odd_objects
from seatroads.courses import Course
from seatroads.entries import books_of, corrections, told_rows
from seatroads.errors import BadAccount, BadDeed, BadFee, BadFloor, BadHearing, BadName, BadTime
from seatroads.ledgers import Ledger, ledger_of
from seatroads.offices import Office
from seatroads.roads import roads
from seatroads.runs import run_of

FINE = [("ann", "coin", -2), ("bob", "coin", 2)]
LAST = 10 ** 6
BAD_TIMES = [None, -1, LAST + 1, True, False, "1", [1], (), {}]


def entry(known, valid, amount=2):
    return ("entry", known, valid, [("ann", "coin", -amount), ("bob", "coin", amount)])


class DeedsTest(unittest.TestCase):

    def test_deeds(self):
        rows = [["bob", "coin", 1], ("ann", "coin", -2), ("bob", "coin", 1), ("bob", "seat", 0)]
        ledger = Ledger([["entry", 1, 5, rows], ("close", 1, 7), ("entry", 3, 5, ())])
        self.assertEqual(ledger.deeds(), [("entry", 1, 5, (("ann", "coin", -2), ("bob", "coin", 2))), ("close", 1, 7),
                                          ("entry", 3, 5, ())])
        self.assertEqual(len(ledger), 3)
        self.assertEqual((Ledger().deeds(), len(Ledger()), Ledger(deeds=[]).booked()), ([], 0, []))

    def test_what_is_passed_can_change_later(self):
        rows = [["ann", "coin", -2], ["bob", "coin", 2]]
        deeds = [["entry", 1, 5, rows]]
        ledger = Ledger(deeds)
        self.assertEqual(deeds, [["entry", 1, 5, [["ann", "coin", -2], ["bob", "coin", 2]]]])
        rows[0][2] = 7
        deeds[0][1] = 9
        deeds.clear()
        self.assertEqual(ledger, Ledger([("entry", 1, 5, FINE)]))
        self.assertEqual(ledger.balance("ann", "coin", 1, 5), -2)

    def test_what_is_returned_is_new(self):
        ledger = Ledger([entry(1, 5), ("close", 2, 7), entry(3, 4)])
        calls = [ledger.deeds, ledger.booked, lambda: ledger.balances(3, 9), lambda: ledger.shown_balances(3, 9),
                 lambda: ledger.gap(3, 5), lambda: ledger.known_steps("ann", "coin", 9), lambda: ledger.restated(1, 3, 9)]
        for call in calls:
            told = call()
            wanted = list(told.items()) if isinstance(told, dict) else list(told)
            self.assertTrue(wanted)
            told.clear()
            again = call()
            self.assertEqual(list(again.items()) if isinstance(again, dict) else again, wanted)

    def test_more(self):
        ledger = Ledger([entry(1, 5)])
        grown = ledger.more(("close", 1, 5)).more(deed=entry(1, 5))
        self.assertEqual(grown, Ledger([entry(1, 5), ("close", 1, 5), entry(1, 5)]))
        self.assertEqual((len(ledger), len(grown)), (1, 3))
        self.assertEqual(ledger, Ledger([entry(1, 5)]))
        for deed in [entry(0, 5), ("close", 1, 5), None, [], ("entry", 1, 5, FINE[:1])]:
            with self.assertRaises(BadDeed) as caught:
                ledger.more(("close", 1, 5)).more(deed)
            self.assertEqual(caught.exception.index, 2)

    def test_equality(self):
        ledger = Ledger([entry(1, 5)])
        self.assertIs(ledger == Ledger((["entry", 1, 5, tuple(FINE[::-1]) + (("x", "y", 0),)],)), True)
        for other in [Ledger(), Ledger([entry(2, 5)]), Ledger([entry(1, 6)]), Ledger([entry(1, 5, 3)]),
                      Ledger([entry(1, 5), entry(1, 5)]), Ledger([entry(1, 5), ("close", 1, 1)]),
                      ledger.deeds()] + odd_objects():
            self.assertIs(ledger == other, False)
            self.assertIs(other == ledger, False)

    def test_bad_deeds(self):
        ahead = [entry(3, 5), ("close", 3, 7)]
        for thing in odd_objects() + [
                ("entry", 2, 5, FINE), ("close", 2, 9), ("close", 3, 7), ("close", 3, 6), ("close", 3, 7, ()),
                ("close", 3), ("close",), ("entry", 3, 5), ("entry", 3, 5, FINE, 1), ("entries", 3, 5, FINE),
                ("entry", 3, 5, FINE[:1]), ("entry", 3, 5, [("ann", "coin", -2), ("bob", "seat", 2)]),
                ("entry", 3, 5, None), ("entry", 3, 5, {}), ("entry", 3, 5, "ab"), ("entry", 3, 5, [None]),
                ("entry", 3, 5, [("ann", "coin", 0), ("Bob", "coin", 0)]), ("entry", 3, 5, [("ann", "coin", True)]),
                ("entry", True, 5, FINE), ("entry", 4, LAST + 1, FINE), ("close", 4, LAST + 1), ("close", LAST + 1, 9),
                ("entry", 4, None, FINE), ("close", 4, False), ("close", -1, 9), "close", (None, 4, 9), ([], 4, 9)]:
            with self.assertRaises(BadDeed) as caught:
                Ledger(ahead + [thing, None])
            self.assertEqual(caught.exception.index, 2)

    def test_no_list_of_deeds(self):
        for thing in [None, {}, "", 3, True, Ledger(), {0: entry(1, 1)}]:
            with self.assertRaises(BadDeed) as caught:
                Ledger(thing)
            self.assertEqual(caught.exception.index, 0)

    def test_the_first_close_can_be_of_any_time(self):
        self.assertEqual(Ledger([("close", 0, 0), entry(0, 0)]).booked(), [1])
        self.assertEqual(Ledger([("close", 0, 0), ("close", 0, 1), entry(0, 0)]).booked(), [2])

    def test_booked(self):
        deeds = [entry(0, 5), ("close", 1, 5), entry(1, 5), entry(2, 4), entry(2, 6), ("close", 3, 6), entry(3, 2),
                 entry(3, 7), ("close", 4, LAST), entry(5, LAST), entry(5, 3)]
        self.assertEqual(Ledger(deeds).booked(), [5, 6, 6, 6, 7, 7, LAST + 1, LAST + 1])

    def test_booked_against_the_words(self):
        draw = DrawLedgers(71)
        for _ in range(100):
            deeds = draw.deeds(12)
            self.assertEqual(Ledger(deeds).booked(), [booked for _, _, booked, _ in told_entries(deeds)])


class BalancesTest(unittest.TestCase):

    def setUp(self):
        self.ledger = Ledger([entry(1, 5), ("close", 2, 5), entry(3, 4, 10), entry(3, 8, -1)])

    def test_balances(self):
        ledger = self.ledger
        self.assertEqual(ledger.balance("bob", "coin", 2, 5), 2)
        self.assertEqual(ledger.balance(account="bob", thing="coin", known=3, valid=4), 10)
        self.assertEqual(ledger.balance("ann", "coin", 3, 8), -11)
        self.assertEqual(ledger.shown("bob", "coin", 3, 5), 2)
        self.assertEqual(ledger.shown(account="bob", thing="coin", known=3, valid=6), 12)
        self.assertEqual(ledger.balance("cleo", "coin", 3, 5), 0)
        self.assertEqual(ledger.balance("the-till", "seat", LAST, LAST), 0)
        self.assertEqual(ledger.balances(known=3, valid=5), {("ann", "coin"): -12, ("bob", "coin"): 12})
        self.assertEqual(ledger.shown_balances(known=3, valid=5), {("ann", "coin"): -2, ("bob", "coin"): 2})
        self.assertEqual(ledger.gap(known=3, valid=5), {("ann", "coin"): -10, ("bob", "coin"): 10})
        self.assertEqual([ledger.gap(3, 6), ledger.gap(2, 5), ledger.gap(0, 0)], [{}, {}, {}])

    def test_against_sums_of_their_own(self):
        draw = DrawLedgers(72)
        gaps = 0
        for _ in range(60):
            deeds = draw.deeds(draw.rng.randint(0, 14))
            ledger, told = Ledger(deeds), told_entries(deeds)
            for known in range(0, 12):
                for valid in range(0, 12):
                    true = added([rows for when, time, _, rows in told if when <= known and time <= valid])
                    shown = added([rows for when, _, time, rows in told if when <= known and time <= valid])
                    self.assertEqual(list(ledger.balances(known, valid).items()), list(true.items()))
                    self.assertEqual(list(ledger.shown_balances(known, valid).items()), list(shown.items()))
                    gap = {key: true.get(key, 0) - shown.get(key, 0) for key in sorted({**true, **shown})}
                    gap = {key: gap[key] for key in gap if gap[key]}
                    self.assertEqual(list(ledger.gap(known, valid).items()), list(gap.items()))
                    gaps += gap != {}
                    for account in ("ann", "the-pool"):
                        for thing in ("coin", "seat"):
                            self.assertEqual(ledger.balance(account, thing, known, valid), true.get((account, thing), 0))
                            self.assertEqual(ledger.shown(account, thing, known, valid), shown.get((account, thing), 0))
        self.assertGreater(gaps, 300)

    def test_facts(self):
        """Both add up to 0; shown ones of closed times stay; in the end both are the same."""
        draw = DrawLedgers(73)
        for _ in range(60):
            deeds = draw.deeds(12)
            ledger, told = Ledger(deeds), told_entries(deeds)
            closings = [deed for deed in ledger.deeds() if deed[0] == "close"]
            for known in range(0, 25, 3):
                for valid in range(12):
                    for sums in (ledger.balances(known, valid), ledger.shown_balances(known, valid)):
                        for thing in ("coin", "seat"):
                            self.assertEqual(sum(sums[key] for key in sums if key[1] == thing), 0)
                    far = [1 for when, time, booked, _ in told if when <= known and time != booked and booked > valid]
                    if not far:
                        self.assertEqual(ledger.gap(known, valid), {})
            for _, when, closed in closings:
                for known in range(when, 25):
                    self.assertEqual(ledger.shown_balances(known, closed), ledger.shown_balances(when, closed))

    def test_closed_times_stay_though_later_entries_are_written(self):
        ledger = Ledger([entry(1, 5), ("close", 2, 7)])
        grown = ledger.more(entry(2, 5, 9)).more(entry(4, 7, 1)).more(("close", 5, 9)).more(entry(6, 1))
        for valid in range(8):
            self.assertEqual(grown.shown_balances(9, valid), ledger.shown_balances(2, valid))

    def test_errors_in_their_order(self):
        ledger = self.ledger
        for call in (ledger.balance, ledger.shown):
            for thing in odd_objects() + ["the-bank", "Ann", ["ann"]]:
                with self.assertRaises(BadAccount) as caught:
                    call(thing, None, None, None)
                self.assertIs(caught.exception.account, thing)
            for thing in odd_objects() + ["the-till", "Coin", ["coin"]]:
                with self.assertRaises(BadName) as caught:
                    call("the-till", thing, None, None)
                self.assertIs(caught.exception.thing, thing)
            for thing in BAD_TIMES:
                with self.assertRaises(BadTime) as caught:
                    call("the-pool", "coin", thing, "x")
                self.assertIs(caught.exception.time, thing)
                with self.assertRaises(BadTime) as caught:
                    call("ann", "coin", 0, thing)
                self.assertIs(caught.exception.time, thing)

    def test_bad_times(self):
        ledger = self.ledger
        for call in (ledger.balances, ledger.shown_balances, ledger.gap):
            for thing in odd_objects() + BAD_TIMES:
                with self.assertRaises(BadTime) as caught:
                    call(thing, "x")
                self.assertIs(caught.exception.time, thing)
                with self.assertRaises(BadTime) as caught:
                    call(LAST, thing)
                self.assertIs(caught.exception.time, thing)


class KnownWhenTest(unittest.TestCase):

    def test_known_steps(self):
        ledger = Ledger([entry(1, 5), entry(1, 4), entry(3, 6), entry(4, 5, -4), entry(4, 3, 4), entry(7, 2, -4)])
        self.assertEqual(ledger.known_steps("bob", "coin", 5), [(1, 4), (7, 0)])
        self.assertEqual(ledger.known_steps(account="bob", thing="coin", valid=6), [(1, 4), (3, 6), (7, 2)])
        self.assertEqual(ledger.known_steps("ann", "coin", 4), [(1, -2), (4, -6), (7, -2)])
        self.assertEqual(ledger.known_steps("cleo", "coin", 6), [])
        self.assertEqual(ledger.known_steps("ann", "coin", 1), [])

    def test_restated(self):
        ledger = Ledger([entry(1, 5), entry(3, 4), ("entry", 4, 2, [("ann", "seat", 1), ("the-till", "seat", -1)])])
        self.assertEqual(ledger.restated(1, 3, 5), {("ann", "coin"): (-2, -4), ("bob", "coin"): (2, 4)})
        self.assertEqual(ledger.restated(one=3, other=1, valid=5), {("ann", "coin"): (-4, -2), ("bob", "coin"): (4, 2)})
        self.assertEqual(list(ledger.restated(0, 9, 4).items()), [
            (("ann", "coin"), (0, -2)), (("ann", "seat"), (0, 1)), (("bob", "coin"), (0, 2)),
            (("the-till", "seat"), (0, -1))])
        self.assertEqual(ledger.restated(2, 2, 5), {})

    def test_below(self):
        ledger = Ledger([entry(2, 8, 3), entry(4, 5), entry(4, 6, -2), entry(5, 3, 9), entry(5, 3, -9)])
        self.assertEqual(ledger.first_below("ann", "coin", 0, 3), 8)
        self.assertEqual(ledger.first_below(account="ann", thing="coin", floor=0, known=4), 5)
        self.assertEqual(ledger.first_below("ann", "coin", -2, 4), 8)
        self.assertIsNone(ledger.first_below("ann", "coin", -3, 4))
        self.assertIsNone(ledger.first_below("ann", "coin", 0, 1))
        self.assertIsNone(ledger.first_below("bob", "coin", 0, LAST))
        self.assertEqual(ledger.seen_below(account="ann", thing="coin", floor=-1), (2, 8))
        self.assertEqual(ledger.seen_below("ann", "coin", 0), (2, 8))
        self.assertIsNone(ledger.seen_below("ann", "coin", -3))
        self.assertIsNone(ledger.seen_below("cleo", "coin", 0))

    def test_time_0(self):
        ledger = Ledger([entry(0, 0)])
        self.assertEqual(ledger.first_below("ann", "coin", -1, 0), 0)
        self.assertEqual(ledger.seen_below("ann", "coin", 0), (0, 0))
        self.assertEqual(ledger.known_steps("bob", "coin", 0), [(0, 2)])

    def test_against_all_times(self):
        draw = DrawLedgers(74)
        seen = 0
        for _ in range(60):
            deeds = draw.deeds(draw.rng.randint(0, 12))
            ledger, told = Ledger(deeds), told_entries(deeds)

            def amount(known, valid):
                return added([rows for when, time, _, rows in told
                              if when <= known and time <= valid]).get(("ann", "coin"), 0)

            for valid in range(11):
                known_as = [0] + [amount(known, valid) for known in range(26)]
                wanted = [(known, now) for known, now in enumerate(known_as[1:]) if now != known_as[known]]
                self.assertEqual(ledger.known_steps("ann", "coin", valid), wanted)
                for one, other in [(0, 9), (4, 5), (9, 3)]:
                    before, after = ledger.balances(one, valid), ledger.balances(other, valid)
                    pairs = {key: (before.get(key, 0), after.get(key, 0)) for key in sorted({**before, **after})}
                    pairs = {key: pair for key, pair in pairs.items() if pair[0] != pair[1]}
                    self.assertEqual(list(ledger.restated(one, other, valid).items()), list(pairs.items()))
            for floor in (0, -1, -3):
                first = {known: next((valid for valid in range(11) if amount(known, valid) < floor), None)
                         for known in range(26)}
                for known in first:
                    self.assertEqual(ledger.first_below("ann", "coin", floor, known), first[known])
                least = next(((known, valid) for known, valid in first.items() if valid is not None), None)
                self.assertEqual(ledger.seen_below("ann", "coin", floor), least)
                seen += least is not None
        self.assertGreater(seen, 20)

    def test_errors_in_their_order(self):
        ledger = Ledger([entry(1, 5)])
        calls = [lambda account, thing, floor: ledger.first_below(account, thing, floor, None),
                 lambda account, thing, floor: ledger.seen_below(account, thing, floor)]
        for thing in odd_objects():
            for call in calls + [lambda account, thing, _: ledger.known_steps(account, thing, None)]:
                with self.assertRaises(BadAccount) as caught:
                    call(thing, None, None)
                self.assertIs(caught.exception.account, thing)
                with self.assertRaises(BadName) as caught:
                    call("the-pool", thing, None)
                self.assertIs(caught.exception.thing, thing)
        for thing in [None, 1, 10 ** 30, True, False, "0", [0], (), {}, ledger]:
            for call in calls:
                with self.assertRaises(BadFloor) as caught:
                    call("ann", "coin", thing)
                self.assertIs(caught.exception.floor, thing)
        for thing in BAD_TIMES:
            for call in [lambda: ledger.first_below("ann", "coin", -10 ** 30, thing),
                         lambda: ledger.known_steps("ann", "coin", thing), lambda: ledger.restated(thing, "x", "y"),
                         lambda: ledger.restated(0, thing, "y"), lambda: ledger.restated(LAST, 0, thing)]:
                with self.assertRaises(BadTime) as caught:
                    call()
                self.assertIs(caught.exception.time, thing)

    def test_errors_where_nothing_is_written(self):
        for ledger in (Ledger(), Ledger([("close", 1, 1)])):
            for thing in BAD_TIMES:
                for call in [lambda: ledger.known_steps("ann", "coin", thing),
                             lambda: ledger.first_below("ann", "coin", 0, thing)]:
                    with self.assertRaises(BadTime):
                        call()
            for thing in [None, 1, True, False]:
                with self.assertRaises(BadFloor):
                    ledger.seen_below("ann", "coin", thing)
            with self.assertRaises(BadAccount):
                ledger.known_steps("Ann", "coin", 1)
            with self.assertRaises(BadName):
                ledger.seen_below("ann", "Coin", 0)
            self.assertEqual(ledger.known_steps("ann", "coin", 1), [])
            self.assertIsNone(ledger.seen_below("ann", "coin", 0))

    def test_within_the_limits(self):
        accounts = ["p" + str(number) for number in range(24)]
        great = 10 ** 18 - 1
        deeds = []
        for number in range(60):
            rows = [(accounts[(number + place) % 24], "t" + str(place % 5), great - place) for place in range(20)]
            rows += [("the-pool", thing, -amount) for _, thing, amount in rows]
            deeds.append(("entry", number, 60 - number, rows))
        ledger = Ledger(deeds)
        self.assertEqual(ledger.seen_below("the-pool", "t0", -10 ** 30), None)
        self.assertEqual(ledger.seen_below("the-pool", "t0", 0), (0, 60))
        self.assertEqual(len(ledger.known_steps("the-pool", "t4", 60)), 60)


class LedgerOfTest(unittest.TestCase):

    def setUp(self):
        self.office = Office({"red": []})
        self.fees = (3, {"red": 5})
        self.first = [("put", 1, ("place", "red")), ("put", 2, ("come", "ann", ["red"], 0, None)),
                      ("put", 3, ("come", "bob", ["red"], 0, None))]

    def test_ledger_of(self):
        ledger = ledger_of(self.office, [(4, self.first), [7, [["strike", 2]]]], self.fees)
        self.assertEqual(ledger.deeds(), [
            ("entry", 4, 2, (("ann", "coin", -5), ("ann", "seat", 1), ("the-till", "coin", 5), ("the-till", "seat", -1))),
            ("entry", 4, 3, (("bob", "coin", -3), ("the-pool", "coin", 3))),
            ("entry", 7, 2, (("ann", "coin", 5), ("ann", "seat", -1), ("the-till", "coin", -5), ("the-till", "seat", 1))),
            ("entry", 7, 3, (("bob", "coin", -2), ("bob", "seat", 1), ("the-pool", "coin", -3), ("the-till", "coin", 5),
                             ("the-till", "seat", -1)))])
        self.assertEqual(ledger_of(office=self.office, hearings=(), fees=self.fees), Ledger())
        self.assertEqual(ledger_of(self.office, [(4, []), (5, ())], self.fees), Ledger())

    def test_against_the_events_gone_through(self):
        draw = Draw(75)
        entries = rounds = 0
        for number in range(150):
            ranks = ALL_RANKS[number % len(ALL_RANKS)]
            events, hearings, naives = {}, [], []
            known = draw.rng.randint(0, 2)
            for _ in range(draw.rng.randint(0, 4)):
                truths = [("put", time, event) for time, event in draw.events(ranks, 8).items()] if not hearings else (
                    draw.truths(ranks, events, draw.rng.randint(0, 2), moving=True))
                events = all_heard(events, truths)
                hearings.append((known, truths))
                naives.append((known, dict(events)))
                known += draw.rng.randint(1, 3)
            fees = (draw.rng.randint(0, 3), {kind: draw.rng.randint(0, 3) for kind in ranks})
            ledger = ledger_of(Office(ranks), hearings, fees)
            self.assertTrue(all(deed[0] == "entry" for deed in ledger.deeds()))
            for when in range(known + 1):
                course = ([{}] + [events for known, events in naives if known <= when])[-1]
                naive = Naive(ranks, course)
                rounds += len(naive.rounds)
                books = books_of(run_of(Course(Office(ranks), course)), fees)
                for valid in range(0, 20, 2):
                    wanted = added([rows for time, rows in books if time <= valid])
                    self.assertEqual(list(ledger.balances(when, valid).items()), list(wanted.items()))
            entries += len(ledger)
        self.assertGreater(entries, 300)
        self.assertGreater(rounds, 50)

    def test_as_few_entries_as_can_be(self):
        hearings = [(4, self.first), (5, [("put", 9, ("place", "red"))]), (6, [("put", 20, ("place", "red"))])]
        ledger = ledger_of(self.office, hearings, self.fees)
        course = Course(self.office, {})
        wanted, books = [], []
        for known, truths in hearings:
            course = course.with_truths(truths)
            later = books_of(run_of(course), self.fees)
            wanted += [("entry", known, valid, tuple(rows)) for valid, rows in corrections(books, later)]
            books = later
        self.assertEqual(ledger.deeds(), wanted)
        self.assertEqual([deed[1] for deed in wanted], [4, 4, 5])

    def test_a_truth_of_one_road_corrects_two_people_at_a_time(self):
        draw = Draw(76)
        for number in range(300):
            ranks = ALL_RANKS[number % len(ALL_RANKS)]
            events = draw.events(ranks, 12)
            truth = draw.truth(ranks, events)
            course = Course(Office(ranks), events)
            if len(roads(course, [truth])) > 1:
                continue
            fees = (draw.rng.randint(0, 3), {kind: draw.rng.randint(0, 3) for kind in ranks})
            found = corrections(books_of(run_of(course), fees), books_of(run_of(course.with_truths([truth])), fees))
            self.assertEqual(len(naive_pairs(events, truth)), 1)
            for valid, rows in found:
                if events.get(valid) != ("round",):
                    self.assertLessEqual(len({row[0] for row in rows} - {"the-till", "the-pool"}), 2)

    def test_bad_hearings(self):
        good = [(4, self.first), (6, [])]
        for thing in odd_objects() + [
                (6, []), (5, []), (4, []), (7,), (7, [], []), (7, None), (7, {}), (7, "ab"), (None, []), (True, []),
                (LAST + 1, []), ("7", []), ([7], []), (7, [("strike", 9)]), (7, [("put", 1, ("place", "red"))]),
                (7, [("strike", 1), ("strike", 1)]), (7, [("put", 9, ("come", "ann", [], 0, None))]), (7, [None]),
                (7, [("put", 9, ("place", "blue"))]), (7, ("strike", 1)), {7: []}, "7"]:
            with self.assertRaises(BadHearing) as caught:
                ledger_of(self.office, good + [thing, None], None)
            self.assertEqual(caught.exception.index, 2)
        for thing in [None, {}, "", 3, True, self.office]:
            with self.assertRaises(BadHearing) as caught:
                ledger_of(self.office, thing, None)
            self.assertEqual(caught.exception.index, 0)

    def test_fees_behind_hearings(self):
        for hearings in ([], [(0, self.first)]):
            for thing, wanted in [(None, None), ((1,), (1,)), ((True, None), True), ((1, None), None),
                                  ((1, {"red": 1, "X": 2, "blue": None}), "X"), ((1, {"red": None, "X": 2}), "red")]:
                with self.assertRaises(BadFee) as caught:
                    ledger_of(self.office, hearings, thing)
                self.assertEqual(caught.exception.thing, wanted)
        with self.assertRaises(BadHearing):
            ledger_of(self.office, [(0, self.first), (0, [])], None)

    def test_what_is_passed_stays(self):
        hearings = [[4, [["put", 1, ["place", "red"]], ("put", 2, ("come", "ann", ["red"], 0, None))]]]
        fees = [3, {"red": 5}]
        ledger = ledger_of(self.office, hearings, fees)
        before = ledger.deeds()
        self.assertEqual(hearings, [[4, [["put", 1, ["place", "red"]], ("put", 2, ("come", "ann", ["red"], 0, None))]]])
        self.assertEqual(fees, [3, {"red": 5}])
        hearings[0][1].clear()
        fees[1].clear()
        self.assertEqual(ledger.deeds(), before)

    def test_twenty_events(self):
        truths = [("put", time, ("come", "p" + str(time), ["red"], time, None)) for time in range(10)]
        truths += [("put", time, ("place", "red")) for time in range(10, 20)]
        ledger = ledger_of(self.office, [(0, truths)] + [(time + 1, [("strike", time)]) for time in range(20)], self.fees)
        self.assertEqual(ledger.balances(LAST, LAST), {})


def told_entries(deeds):
    """The entries as tuples (known, valid, booked, rows), by the words of [6.2]."""
    found = []
    for number, deed in enumerate(deeds):
        if deed[0] == "entry":
            closings = [other[2] for other in deeds[:number] if other[0] == "close"]
            valid = deed[2]
            while any(valid <= closed for closed in closings):
                valid += 1
            found.append((deed[1], deed[2], valid, told_rows(deed[3])))
    return found


if __name__ == "__main__":
    unittest.main()
