"""The whole program: each part tells of one course what the others tell of it."""

import copy
import unittest

from letters_told import DrawTold, seen
from samples import ALL_RANKS, TWO, Draw
from seatroads.alike import alike, needless, parting, swaps, worse_behind
from seatroads.back import back_run, parted_back
from seatroads.courses import Course
from seatroads.debts import Debts, greatest_payments, is_settlement, least_payments, loose_rings, settlement
from seatroads.entries import books_of, corrections, told_rows
from seatroads.exchanges import bettered, exchange_of, group, hangs, items_of, options, queues_of
from seatroads.explained import explained, map_of_person, map_of_place
from seatroads.failures import coin_queues, cover, fails, one_coin, roots
from seatroads.halls import End, end, hall_of, is_hall
from seatroads.judged import Fault, judged, lists
from seatroads.known import Known
from seatroads.lattices import needs, stable_ones, turned, turns
from seatroads.ledgers import Ledger, ledger_of
from seatroads.letters import Told, explains
from seatroads.live import Desk
from seatroads.offices import Office
from seatroads.queues import Queues
from seatroads.reach import even_from, gone_and_come, touched, unlike_at
from seatroads.rings import outcome, rings, way
from seatroads.roads import Road, roads
from seatroads.rounds import Meeting, best, refusals, would_rather
from seatroads.rules import Table, apart, office_table, other_table
from seatroads.runs import Run, run_of
from seatroads.settling import bundles, holdings_after, in_turn, paid, paper
from seatroads.texts import (read_events, read_letters, read_office, read_truths, write_events, write_letters,
                             write_office, write_truths)
from seatroads.toldback import clash, how_many_told, known_of, least_wishes, may_get, wish_number, would_tell
from seatroads.walks import one_more, one_more_place, told_less
from tables_told import DrawPeople

LAST = 10 ** 6
FEES = (3, {"a": 5, "b": 2, "red": 1})


def sums_of(books, time):
    """The balances of books at a time."""
    found = {}
    for valid, rows in books:
        for account, thing, amount in rows:
            if valid <= time:
                found[account, thing] = found.get((account, thing), 0) + amount
    return {key: amount for key, amount in sorted(found.items()) if amount}


def courses(seed, many, length=12, rounds=True):
    draw = Draw(seed)
    for number in range(many):
        ranks = ALL_RANKS[number % len(ALL_RANKS)]
        events = draw.events(ranks, length, rounds)
        yield draw, ranks, events, Course(Office(ranks), events)


class OneCourseTest(unittest.TestCase):

    def test_texts_and_a_desk(self):
        for draw, ranks, events, course in courses(260, 30):
            self.assertEqual(read_office(write_office(course.office)), course.office)
            self.assertEqual(Course(course.office, read_events(course.office, write_events(events))), course)
            desk = Desk(course.office, FEES)
            for time in draw.rng.sample(sorted(events), len(events)):
                desk.tell(("put", time, events[time]))
            self.assertEqual((desk.course(), desk.run()), (course, run_of(course)))
            told = read_truths(course.office, write_truths(desk.told()))
            self.assertEqual(Course(course.office, {}).with_truths(told), course)
            self.assertEqual(read_letters(write_letters(desk.run().letters())), run_of(course).letters())
            known = Known(Course(course.office, {}))
            for truth in told:
                if truth[2][0] in ("gather", "round"):
                    known = Known(known.course().with_truths([truth]))
                else:
                    known.hear(truth)
            self.assertEqual((known.course(), known.letters()), (course, run_of(course).letters()))
            for time in range(0, 26, 5):
                self.assertEqual(desk.ledger().balances(LAST, time), sums_of(books_of(run_of(course), FEES), time))
                self.assertEqual((known.waiting(time), known.free(time)),
                                 (run_of(course).waiting(time), run_of(course).free(time)))

    def test_one_truth_through_roads_reach_books_and_a_desk(self):
        for draw, ranks, events, course in courses(261, 60):
            truth = draw.truth(ranks, events)
            run, later = run_of(course), run_of(course.with_truths([truth]))
            found, (gone, come) = roads(course, [truth]), gone_and_come(course, [truth])
            rounds = [time for time in events if events[time][0] == "round"]
            steps = [step[0] for road in found for step in road.steps]
            for letter in gone + come:
                self.assertIn(letter[0], steps + rounds)
            desk = Desk(course.office, FEES)
            for time, event in events.items():
                desk.tell(("put", time, event))
            self.assertEqual(desk.tell(truth), (gone, come))
            waits, waited, differ = unlike_at(course, [truth], LAST)
            ends = [road.end() for road in found if road.end() is not None]
            self.assertLessEqual(len(waits) + len(waited) + sum(abs(many) for many in differ.values()), len(ends))
            self.assertEqual(even_from(course, [truth]) is None, waits + waited != [] or differ != {})
            changed = corrections(books_of(run, FEES), books_of(later, FEES))
            for valid, rows in changed:
                self.assertIn(valid, steps + rounds + list(events) + [truth[1]])
                if len(found) == 1 and valid not in rounds:
                    people = {account for account, _, _ in rows if account not in ("the-till", "the-pool")}
                    self.assertTrue(valid == truth[1] or len(people) <= 2)
            if len(found) == 1:
                wanted = run.letters() if not gone + come else later.letters()
                self.assertEqual(explained(course, [truth], wanted), [()] if not gone + come else [(0,)])
            for name in touched(course, [truth]):
                self.assertNotEqual(run.letter_of(name), later.letter_of(name))

    def test_halls(self):
        some = 0
        for draw, ranks, events, course in courses(262, 60, 12, False):
            run = run_of(course)
            for time in range(0, 26, 3):
                hall = hall_of(run, time)
                self.assertIs(is_hall(course.office, hall), True)
                self.assertEqual(([person[0] for person in hall[0]], hall[1]), (run.waiting(time), run.free(time)))
                found = end(course.office, hall, [event for at, event in events.items() if at > time])
                self.assertEqual((found.waits, found.rooms), (run.waiting(LAST), run.free(LAST)))
                self.assertEqual(found.got, {name: kind for at, name, kind in run.letters() if at > time})
                some += len(found.got)
            wanted = {name: kind for _, name, kind in run.letters()}
            self.assertEqual(back_run(course.office, list(events.values())), (run.waiting(LAST), run.free(LAST), wanted))
        self.assertGreater(some, 100)

    def test_rounds(self):
        some = 0
        for draw, ranks, events, course in courses(263, 160, 16):
            run, gathered = run_of(course), False
            for time, event in course.events().items():
                if event[0] == "round" and gathered:
                    people = self.people_ahead(course, time)
                    meeting = Meeting(course.office, people, run.free(time - 1))
                    placed = {name: kind for at, name, kind in run.letters() if at == time}
                    self.assertEqual(placed, best(meeting))
                    for kind in ranks:
                        self.assertEqual(meeting.ranked(kind), run.list_of(kind, time - 1))
                    some += len(placed)
                gathered = event[0] == "gather" or (gathered and event[0] != "round")
        self.assertGreater(some, 30)

    def people_ahead(self, course, time):
        """Those who wait ahead of a time, as tuples of a meeting, by what they told last."""
        events = {at: event for at, event in course.events().items() if at < time}
        told = {event[1]: event[1:] for event in events.values() if event[0] == "come"}
        run = run_of(Course(course.office, events))
        for at, event in events.items():
            if event[0] == "change" and event[1] in run.waiting(at):
                told[event[1]] = (event[1], event[2]) + told[event[1]][2:]
        return [told[name] for name in run.waiting(time)]

    def test_exchanges(self):
        traded = 0
        for draw, ranks, events, course in courses(264, 60):
            run = run_of(course)
            exchange = exchange_of(run, LAST)
            self.assertEqual(exchange.holds(), {name: kind for _, name, kind in sorted(
                run.letters(), key=lambda letter: letter[1])})
            self.assertEqual({kind: many for kind, many in exchange.free().items() if many}, run.free(LAST))
            self.assertEqual(sorted(run.waiting(LAST)), [name for name in exchange.people() if name not in exchange.holds()])
            given = outcome(exchange)
            self.assertIsNone(bettered(exchange, given))
            self.assertIsNone(group(exchange, given))
            for name, kind in given.items():
                self.assertEqual(options(exchange, name)[0], kind)
            queues = queues_of(exchange, way(exchange), {}, {})
            self.assertEqual(in_turn(queues), list(range(len(queues))))
            after = holdings_after(queues, paid(queues))
            self.assertEqual({name: list(after[name]) for name in after if name != "office"},
                             {name: [kind] for name, kind in given.items() if kind is not None})
            traded += given != {name: exchange.holds().get(name) for name in exchange.people()}
            # Nobody waits for a free place that they let, so without letters nothing is exchanged.
            if not run.letters() and not run.is_gathered(LAST):
                self.assertEqual(given, dict.fromkeys(exchange.people()))
        self.assertGreater(traded, 8)

    def test_told_letters(self):
        for draw, ranks, events, course in courses(265, 60, 14, False):
            run = run_of(course)
            told = Told(course.office, {time: seen(event) for time, event in events.items()}, run.letters())
            self.assertIsNone(clash(told))
            wishes = {time: events[time][2] for time in told.asked()}
            self.assertIs(explains(told, wishes), True)
            self.assertIs(explains(told, least_wishes(told)), True)
            for time, row in wishes.items():
                let, barred, first, behind = known_of(told, time)
                self.assertTrue(set(let) <= set(row) and not set(barred) & set(row))
                self.assertGreaterEqual(wish_number(told, time, row), 0)
            for kind in ranks:
                with_one_more = run_of(course.with_truths([("put", LAST, ("place", kind))]))
                getter = [name for time, name, _ in with_one_more.letters() if time == LAST]
                self.assertIn(getter[0] if getter else None, may_get(told, kind))
                self.assertEqual(getter, run.list_of(kind, LAST)[:1])

    def test_tables(self):
        draw = DrawPeople(266)
        for _ in range(40):
            ranks, people = draw.office(draw.rng.randint(1, 3), draw.rng.randint(1, 4))
            table = office_table(Office(ranks), people)
            row = [("person", name) for name in draw.rng.sample(sorted(people), len(people))]
            row += [("place", draw.rng.choice(sorted(ranks))) for _ in range(draw.rng.randint(0, 5))]
            draw.rng.shuffle(row)
            events = {time: ("come", name, *people[name]) if side == "person" else ("place", name)
                      for time, (side, name) in enumerate(row)}
            run = run_of(Course(Office(ranks), events))
            empty = ((0,) * len(people), (0,) * len(ranks))
            self.assertEqual(table.after_all(empty, row), (
                tuple(int(name in run.waiting(LAST)) for name in table.waits),
                tuple(run.free(LAST).get(kind, 0) for kind in table.frees)))
            # The token of a road is that of the table's books: the road of a come struck.
            comes = [time for time in events if events[time][0] == "come"]
            road, = roads(run.whole, [("strike", comes[0])])
            lower = table.after_all(empty, row[:comes[0]] + row[comes[0] + 1:])
            higher = table.after_all(empty, row)
            self.assertEqual(apart(higher, lower), 0 if road.end() is None else 1)
            self.assertIsNone(judged(table))

    def test_rows_and_courses(self):
        draw = Draw(267)
        for number in range(60):
            ranks = ALL_RANKS[number % len(ALL_RANKS)]
            ahead = draw.events(ranks, 8, rounds=False)
            hall = hall_of(run_of(Course(Office(ranks), ahead)), LAST)
            row = [event for event in draw.events(ranks, 5, rounds=False).values()]
            row = [(event[0], "q" + event[1][1:]) + event[2:] if event[0] in ("come", "leave", "change") else event
                   for event in row]
            for at in swaps(Office(ranks), row):
                swapped = row[:at] + [row[at + 1], row[at]] + row[at + 2:]
                self.assertEqual(end(Office(ranks), hall, row), end(Office(ranks), hall, swapped))
                # By two courses: the letters give everybody the same kinds.
                kinds = []
                for told in (row, swapped):
                    events = {**ahead, **{100 + place: event for place, event in enumerate(told)}}
                    run = run_of(Course(Office(ranks), events))
                    kinds.append(({name: kind for _, name, kind in run.letters()}, run.waiting(LAST), run.free(LAST)))
                self.assertEqual(kinds[0], kinds[1])


class RenamedTest(unittest.TestCase):
    """Names of people and kinds made other ones change nothing else."""

    def setUp(self):
        self.kinds = {"a": "z9", "b": "y", "c": "a", "red": "b0"}
        self.people = {"p" + str(number): "n" + str(97 - 7 * number) for number in range(13)}
        self.people.update({"q0": "a", "q1": "b"})

    def renamed(self, thing):
        """The same thing with other names; words stay."""
        if isinstance(thing, str):
            return self.kinds.get(thing, self.people.get(thing, thing))
        if isinstance(thing, dict):
            return {self.renamed(key): self.renamed(value) for key, value in thing.items()}
        if isinstance(thing, (list, tuple)):
            return type(thing)([self.renamed(part) for part in thing])
        return thing

    def courses(self, seed, many, rounds=True):
        for draw, ranks, events, course in courses(seed, many, 11, rounds):
            yield draw, ranks, events, course, Course(Office(self.renamed(ranks)), self.renamed(events))

    def test_runs_and_roads(self):
        for draw, ranks, events, course, other in self.courses(268, 60):
            one, two = run_of(course), run_of(other)
            for time in range(0, 26, 2):
                self.assertEqual(self.renamed(one.waiting(time)), two.waiting(time))
                self.assertEqual(self.renamed(one.free(time)), two.free(time))
                for kind in ranks:
                    self.assertEqual(self.renamed(one.list_of(kind, time)), two.list_of(self.kinds[kind], time))
            self.assertEqual(sorted(self.renamed(one.letters())), sorted(two.letters()))
            truth = draw.truth(ranks, events)
            told = [[(road.truth, road.higher, road.steps) for road in roads(whole, [this])]
                    for whole, this in ((course, truth), (other, self.renamed(truth)))]
            self.assertEqual(self.renamed(told[0]), told[1])
            self.assertEqual([sorted(row) for row in self.renamed(gone_and_come(course, [truth]))],
                             list(gone_and_come(other, [self.renamed(truth)])))
            books = [dict(books_of(run, fees)) for run, fees in ((one, FEES), (two, self.renamed(FEES)))]
            self.assertEqual({valid: sorted(self.renamed(rows)) for valid, rows in books[0].items()}, books[1])

    def test_halls_exchanges_and_letters(self):
        for draw, ranks, events, course, other in self.courses(269, 50, False):
            self.assertEqual(self.renamed(hall_of(run_of(course), LAST)), hall_of(run_of(other), LAST))
            one, two = [exchange_of(run_of(whole), LAST) for whole in (course, other)]
            self.assertEqual([self.renamed(one.ranks()), self.renamed(one.wishes()), self.renamed(outcome(one))],
                             [two.ranks(), two.wishes(), outcome(two)])
            told = [Told(whole.office, {time: seen(event) for time, event in whole.events().items()},
                         run_of(whole).letters()) for whole in (course, other)]
            self.assertEqual(how_many_told(told[0]), how_many_told(told[1]))
            for kind in ranks:
                self.assertEqual(self.renamed(may_get(told[0], kind)), may_get(told[1], self.kinds[kind]))

    def test_rows(self):
        draw = Draw(270)
        for number in range(60):
            ranks = ALL_RANKS[number % len(ALL_RANKS)]
            row = list(draw.events(ranks, 4, rounds=False).values())
            for function in (swaps, needless):
                self.assertEqual(function(Office(ranks), row), function(Office(self.renamed(ranks)), self.renamed(row)))

    def test_tables(self):
        draw = DrawPeople(271)
        for _ in range(12):
            ranks, people = draw.office(2, 3)
            for rule in ("pairs", "proud", "all", "crowd", "small", "plain"):
                one = judged(other_table(Office(ranks), people, rule))
                two = judged(other_table(Office(self.renamed(ranks)), self.renamed(people), rule))
                self.assertEqual(one is None, two is None)
                if one is not None:
                    self.assertEqual(sum(one.book[0] + one.book[1]), sum(two.book[0] + two.book[1]))


def plainly(thing):
    """What can be compared, also of objects that are equal to nothing else."""
    if isinstance(thing, (Road, Fault, End)):
        return sorted(vars(thing).items())
    if isinstance(thing, (Known, Desk)):
        return thing.course()
    if isinstance(thing, dict):
        return [(key, plainly(value)) for key, value in thing.items()]
    if isinstance(thing, (list, tuple)):
        return type(thing)([plainly(part) for part in thing])
    return thing


class AskedTwiceTest(unittest.TestCase):
    """No call changes what it was passed, and each call asked a second time answers the same."""

    def check(self, function, *told):
        kept = copy.deepcopy(plainly(told))
        one = plainly(function(*told))
        self.assertEqual(plainly(told), kept, function)
        self.assertEqual(plainly(function(*told)), one, function)
        self.assertEqual(plainly(told), kept, function)
        return one

    def test_courses(self):
        for draw, ranks, events, course in courses(272, 10, 9):
            office, run = course.office, run_of(course)
            truths = draw.truths(ranks, events, 3)
            listed = [[truth[0], truth[1], *map(list, truth[2:])] for truth in truths]
            menu = [("strike", time) for time in events][:4]
            self.check(Course, office, {time: list(event) for time, event in events.items()})
            for function in (roads, gone_and_come, even_from, touched):
                self.check(function, course, listed)
            self.check(unlike_at, course, listed, 9)
            self.check(map_of_place, course, sorted(ranks)[0])
            self.check(map_of_person, course, sorted(ranks), None)
            self.check(explained, course, menu, [list(letter) for letter in run.letters()])
            self.check(books_of, run, [3, {"a": 4}])
            self.check(ledger_of, office, [[1, [["put", 1, ["place", sorted(ranks)[0]]]]], [2, []]], [3, {"a": 4}])
            self.check(exchange_of, run, 12)
            self.check(write_events, events)
            self.check(read_events, office, write_events(events))
            self.check(write_truths, listed)

    def test_meetings_and_ledgers(self):
        office = Office(TWO)
        people, free = [["x", ["a", "b"], 1, None], ("y", ("b", "a"), 2, None)], {"b": 1, "a": 1}
        self.check(Meeting, office, people, free)
        meeting = Meeting(office, people, free)
        for function in (best, refusals, stable_ones, turns, needs):
            self.check(function, meeting)
        self.check(would_rather, meeting, {"x": "b"})
        self.check(turned, meeting, [0])
        self.check(one_more, meeting, ["z", ["a"], 9, None])
        self.check(one_more_place, meeting, "a")
        self.check(told_less, meeting, "x")
        rows = [["b", "coin", 2], ["a", "coin", -2]]
        self.check(told_rows, rows)
        self.check(Ledger, [["entry", 1, 1, rows], ["close", 2, 2]])
        self.check(corrections, [[1, [["a", "coin", -1], ["b", "coin", 1]]]], [])

    def test_queues_and_debts(self):
        queues = Queues({"a": {"coin": 1}}, [[["a", "coin", 2, "b"]], [["b", "coin", 1, "a"]], []])
        for function in (paid, in_turn, paper):
            self.check(function, queues)
        self.check(bundles, queues, [2])
        debts = Debts({"a": 1}, {"a": [["b", 2]], "b": [["a", 1]]})
        for function in (greatest_payments, least_payments, settlement, loose_rings, roots, coin_queues):
            self.check(function, debts)
        self.check(is_settlement, debts, settlement(debts))
        self.check(fails, debts, greatest_payments(debts))
        self.check(one_coin, debts, "a")
        self.check(cover, debts, "a")

    def test_exchanges_halls_and_letters(self):
        draw = DrawTold(273)
        for number in range(10):
            ranks = ALL_RANKS[number % len(ALL_RANKS)]
            one, wishes = draw.true(ranks, 10)
            office = Office(ranks)
            exchange = exchange_of(run_of(Course(office, one.whole(wishes))), LAST)
            self.check(rings, exchange, [])
            self.check(items_of, exchange, way(exchange), {})
            self.check(queues_of, exchange, way(exchange), {}, {"office": 3})
            for function in (bettered, group):
                self.check(function, exchange, {name: exchange.holds().get(name) for name in exchange.people()})
            for name in exchange.people()[:2]:
                self.check(options, exchange, name)
                self.check(hangs, exchange, name)
            row = [["place", sorted(ranks)[0]], ["come", "x", sorted(ranks), 0, None], ["leave", "x"]]
            for function in (alike, parting):
                self.check(function, office, row, row[::-1])
            self.check(worse_behind, office, row, row[::-1], "x")
            self.check(swaps, office, row)
            self.check(needless, office, row)
            self.check(end, office, [[["h", [], 0, None]], {sorted(ranks)[0]: 1}], row)
            self.check(explains, one.told, {time: list(told) for time, told in wishes.items()})
            self.check(Told, office, {time: list(event) for time, event in one.events.items()},
                       [list(letter) for letter in one.letters])
            for function in (clash, least_wishes, how_many_told):
                self.check(function, one.told)
            for kind in ranks:
                for name in self.check(may_get, one.told, kind):
                    self.check(would_tell, one.told, kind, name)
            events = [list(event) for event in one.whole(wishes).values()]
            self.check(back_run, office, events + [["back", "p0"]])
            self.check(parted_back, office)

    def test_tables_and_texts(self):
        ranks, people = DrawPeople(274).office(2, 3)
        told = {name: list(row) for name, row in people.items()}
        self.check(office_table, Office(ranks), told)
        self.check(other_table, Office(ranks), told, "small")
        table = other_table(Office(ranks), told, "small")
        self.check(judged, table)
        self.check(lists, table)
        self.check(Table.after_all, table, [[0, 0, 0], [1, 2]], [["person", "p0"], ["place", "a"]])
        self.check(apart, [[1], []], [[2], []])
        self.check(write_letters, [[1, "x", "a"]])
        self.check(read_letters, "1 x a\n")
        self.check(read_office, write_office(Office(ranks)))
        self.check(read_truths, Office(ranks), "strike 5\n")

    def test_equal_objects_give_equal_answers(self):
        for draw, ranks, events, course in courses(275, 12, 9, False):
            other = Course(Office(dict(reversed(list(ranks.items())))), dict(reversed(list(events.items()))))
            self.assertEqual(course, other)
            self.assertIsInstance(run_of(other), Run)
            for function in (lambda whole: run_of(whole).letters(), lambda whole: hall_of(run_of(whole), 12),
                             lambda whole: way(exchange_of(run_of(whole), 12)),
                             lambda whole: plainly(roads(whole, [("strike", min(events))])),
                             lambda whole: map_of_place(whole, sorted(ranks)[0])):
                self.assertEqual(plainly(function(course)), plainly(function(other)))
            row = list(draw.events(ranks, 4, rounds=False).values())
            self.assertEqual(parting(course.office, row, row[::-1]), parting(other.office, row, row[::-1]))


if __name__ == "__main__":
    unittest.main()
