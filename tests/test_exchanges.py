"""[9.3] to [9.7]: exchanges judged, exchanges of an office, and what is paid for them."""

import unittest
from itertools import permutations, product

from exchanges_told import DrawExchanges, ToldExchange, small_exchanges
from oracle import Naive, is_ahead
from samples import ALL_RANKS, Draw, odd_objects
from seatroads.courses import Course
from seatroads.errors import BadCoins, BadFee, BadOutcome, BadTime, BadWay, NoPerson
from seatroads.exchanges import bettered, exchange_of, group, hangs, items_of, options, otherwise, queues_of
from seatroads.offices import Office
from seatroads.queues import Queues
from seatroads.rings import Exchange, outcome, rings, way
from seatroads.runs import run_of
from seatroads.settling import in_turn, paid


def example():
    """ann holds a, bob holds b, cleo waits; there is a free place of c."""
    ranks = {kind: ["ann", "bob", "cleo"] for kind in "abc"}
    return Exchange(ranks, {"ann": "a", "bob": "b"}, {"ann": ["b"], "bob": ["a"], "cleo": ["a", "c"]}, {"c": 1})


def wish_lists(kinds):
    return [row for many in range(len(kinds) + 1) for row in permutations(kinds, many)]


def place_of(told, name, kind):
    """How much a person likes what they have: less is more."""
    row = told.wishes.get(name, [])
    if kind in row:
        return row.index(kind)
    return len(row) + (kind != told.holds.get(name))


def outcomes(told):
    """All outcomes of an exchange."""
    can = [sorted({None, told.holds.get(name), *told.wishes.get(name, [])}, key=str) for name in told.people]
    return [dict(zip(told.people, kinds)) for kinds in product(*can)
            if all(kinds.count(kind) <= told.places(kind) for kind in told.ranks)]


def is_better(told, new, old):
    """Whether an outcome gives one person what they would rather have, and nobody what they would rather not."""
    places = [(place_of(told, name, new[name]), place_of(told, name, old[name])) for name in told.people]
    return all(one <= other for one, other in places) and any(one < other for one, other in places)


def is_bettering(told, given, row):
    """Whether a row is one of [9.3]."""
    people, kind = row
    has = [given[name] for name in people]
    wanted = has[1:] + [has[0] if kind is None else kind]
    if kind is not None and list(given.values()).count(kind) >= told.places(kind):
        return False
    return len(set(people)) == len(people) > 0 and all(
        place_of(told, name, one) < place_of(told, name, other) for name, one, other in zip(people, wanted, has))


def least_bettering(told, given):
    """The number of people of the least rows that better an outcome, None without one."""
    for many in range(1, len(told.people) + 1):
        for people in permutations(told.people, many):
            if any(is_bettering(told, given, (people, kind)) for kind in [None] + sorted(told.ranks)):
                return many
    return None


def is_group(told, given, people):
    holds = [told.holds.get(name) for name in people]
    return None not in holds and len(set(people)) == len(people) > 0 and all(
        place_of(told, name, kind) < place_of(told, name, given[name])
        for name, kind in zip(people, holds[1:] + holds[:1]))


def least_group(told, given):
    for many in range(1, len(told.people) + 1):
        if any(is_group(told, given, people) for people in permutations(told.people, many)):
            return many
    return None


class BetteredTest(unittest.TestCase):

    def test_by_a_place_that_is_left(self):
        exchange = example()
        self.assertEqual(bettered(exchange, {"ann": "b", "bob": "a", "cleo": None}), (("cleo",), "c"))
        self.assertIsNone(bettered(exchange=exchange, outcome={"ann": "b", "bob": "a", "cleo": "c"}))

    def test_by_a_row_that_comes_back(self):
        people, kind = bettered(example(), {"ann": "a", "bob": "b", "cleo": "c"})
        self.assertEqual((sorted(people), kind), (["ann", "bob"], None))
        self.assertIsInstance(people, tuple)

    def test_none_for_a_holder_is_worse_than_all(self):
        alone = Exchange({"a": ["x"]}, {"x": "a"}, {}, {})
        self.assertEqual(bettered(alone, {"x": None}), (("x",), "a"))
        self.assertEqual(group(alone, {"x": None}), ("x",))
        self.assertIsNone(bettered(alone, {"x": "a"}))
        self.assertIsNone(group(alone, {"x": "a"}))

    def test_nobody(self):
        for ranks in ({}, {"a": []}):
            self.assertIsNone(bettered(Exchange(ranks, {}, {}, {}), {}))
            self.assertIsNone(group(Exchange(ranks, {}, {}, {}), {}))

    def test_group(self):
        exchange = example()
        self.assertIsNone(group(exchange=exchange, outcome={"ann": "b", "bob": "a", "cleo": None}))
        self.assertEqual(sorted(group(exchange, {"ann": "a", "bob": "b", "cleo": "c"})), ["ann", "bob"])
        self.assertEqual(group(exchange, {"ann": None, "bob": "b", "cleo": "c"}), ("ann",))
        # cleo holds nothing, so she gives nobody anything.
        self.assertIsNone(group(exchange, {"ann": "b", "bob": "a", "cleo": "c"}))

    def test_bad_outcomes(self):
        exchange = example()
        right = {"ann": "b", "bob": "a", "cleo": None}
        wrong = odd_objects() + [
            {}, {"ann": "b", "bob": "a"}, dict(right, dan=None), dict(right, ann="c"), dict(right, cleo="b"),
            dict(right, cleo="a"), dict(right, ann=["b"]), dict(right, ann=True), list(right.items()),
            {"ann": "b", "bob": "a", None: None}, {"ann": "b", "bob": "a", ("cleo",): None}]
        for thing in wrong:
            for function in (bettered, group):
                with self.assertRaises(BadOutcome) as caught:
                    function(exchange, thing)
                self.assertIs(caught.exception.outcome, thing)
        self.assertIsNone(bettered(Exchange({}, {}, {}, {}), {}))

    def test_the_order_of_a_dict_tells_nothing(self):
        exchange = example()
        given = {"ann": "a", "bob": "b", "cleo": None}
        turned = dict(reversed(list(given.items())))
        self.assertEqual(bettered(exchange, given), bettered(exchange, turned))
        for told in small_exchanges(150, 30):
            given = {name: told.holds.get(name) for name in told.people}
            turned = dict(reversed(list(given.items())))
            self.assertEqual(bettered(told.exchange, given), bettered(told.exchange, turned))
            self.assertEqual(group(told.exchange, given), group(told.exchange, turned))

    def test_against_all_outcomes(self):
        lengths, lefts, groups = set(), set(), set()
        for told in small_exchanges(151, 45, 4, 3):
            everything = outcomes(told)
            for given in everything[::1 + len(everything) // 12]:
                row = bettered(told.exchange, given)
                self.assertEqual(row is None, not any(is_better(told, new, given) for new in everything))
                self.assertEqual(None if row is None else len(row[0]), least_bettering(told, given))
                if row is not None:
                    self.assertTrue(is_bettering(told, given, row))
                    lengths.add(len(row[0]))
                    lefts.add(row[1] is None)
                people = group(told.exchange, given)
                self.assertEqual(None if people is None else len(people), least_group(told, given))
                if people is not None:
                    self.assertTrue(is_group(told, given, people))
                groups.add(None if people is None else len(people))
        self.assertLessEqual({1, 2}, lengths)
        self.assertEqual(lefts, {True, False})
        self.assertLessEqual({None, 1, 2}, groups)

    def test_rows_of_three_and_four(self):
        for many in (3, 4, 5):
            names = ["p" + str(number) for number in range(many)]
            kinds = ["k" + str(number) for number in range(many)]
            holds = dict(zip(names, kinds))
            wishes = {name: [kinds[(place + 1) % many]] for place, name in enumerate(names)}
            exchange = Exchange({kind: names for kind in kinds}, holds, wishes, {})
            people, kind = bettered(exchange, holds)
            self.assertEqual((len(people), kind, len(group(exchange, holds))), (many, None, many))
            told = ToldExchange({kind: names for kind in kinds}, holds, wishes, {})
            self.assertTrue(is_bettering(told, holds, (people, kind)))
            self.assertTrue(is_group(told, holds, group(exchange, holds)))

    def test_as_few_as_can_be_where_others_stand_nearer(self):
        # p0 and p1 could exchange, but each of them likes first what leads to them by a longer way.
        names = ["p0", "p1", "p5", "p6"]
        holds = {name: "k" + name[1] for name in names}
        wishes = {"p0": ["k5", "k1"], "p1": ["k5", "k0"], "p5": ["k6"], "p6": ["k0", "k1"]}
        exchange = Exchange({kind: names for kind in holds.values()}, holds, wishes, {})
        self.assertEqual(sorted(bettered(exchange, holds)[0]), ["p0", "p1"])
        self.assertEqual(sorted(group(exchange, holds)), ["p0", "p1"])

    def test_what_people_come_to_have_is_bettered_by_nothing_whatever_ranks_are_told(self):
        draw = DrawExchanges(152)
        for told in small_exchanges(153, 120):
            ranks = {kind: draw.rng.sample(row, len(row)) for kind, row in told.ranks.items()}
            for one in (told.exchange, Exchange(ranks, told.holds, told.wishes, told.free)):
                given = outcome(one)
                self.assertIsNone(bettered(told.exchange, given))
                self.assertIsNone(group(told.exchange, given))
            for going in told.whole_ways(3):
                given = {name: kind for ring in going for name, kind in ring}
                self.assertIsNone(bettered(told.exchange, given))

    def test_eight_people_and_five_kinds(self):
        draw = DrawExchanges(154)
        for _ in range(25):
            told = draw.told(8, 5)
            given = {name: told.holds.get(name) for name in told.people}
            row = bettered(told.exchange, given)
            self.assertTrue(row is None or is_bettering(told, given, row))
            people = group(told.exchange, given)
            self.assertTrue(people is None or is_group(told, given, people))
            self.assertEqual(options(told.exchange, "p0")[0], outcome(told.exchange)["p0"])


class OwnWishesTest(unittest.TestCase):

    def test_options(self):
        exchange = example()
        self.assertEqual(options(exchange, "ann"), ["b", "a", "c"])
        self.assertEqual(options(exchange=exchange, person="cleo"), ["c", None])
        self.assertEqual(options(Exchange({"a": ["x"]}, {"x": "a"}, {}, {}), "x"), ["a"])
        self.assertEqual(options(Exchange({"a": ["x"]}, {}, {}, {}), "x"), [None])

    def test_no_person(self):
        for thing in odd_objects() + ["dan", ["ann"], ("ann",), "a"]:
            for call in (lambda: options(example(), thing), lambda: hangs(example(), thing),
                         lambda: otherwise(example(), thing, None), lambda: otherwise(example(), "ann", thing),
                         lambda: otherwise(example(), thing, "ann")):
                with self.assertRaises(NoPerson) as caught:
                    call()
                self.assertIs(caught.exception.name, thing)
        for function in (options, hangs):
            with self.assertRaises(NoPerson):
                function(Exchange({}, {}, {}, {}), "ann")

    def test_against_all_wishes(self):
        sizes = set()
        for told in small_exchanges(155, 60, 5, 3):
            for name in told.people:
                own = told.holds.get(name)
                others = [kind for kind in sorted(told.ranks) if kind != own]
                can = {outcome(told.exchange.with_wishes(name, row))[name] for row in wish_lists(others)}
                wishes = told.wishes.get(name, [])
                order = wishes + [own] + [kind for kind in others if kind not in wishes] + ([None] if own else [])
                found = options(told.exchange, name)
                self.assertEqual(found, [kind for kind in order if kind in can])
                self.assertEqual(found[0], outcome(told.exchange)[name])
                for kind in others:
                    alone = outcome(told.exchange.with_wishes(name, [kind]))[name]
                    self.assertEqual(kind in found, alone == kind)
                sizes.add(len(found))
        self.assertLessEqual({1, 2, 3}, sizes)

    def test_hangs(self):
        exchange = example()
        self.assertEqual(hangs(exchange, "ann"), ["bob"])
        self.assertEqual(hangs(exchange=exchange, person="cleo"), ["ann", "bob"])
        wishes = otherwise(exchange=exchange, person="ann", other="bob")
        self.assertIsInstance(wishes, tuple)
        self.assertNotEqual(outcome(exchange.with_wishes("bob", wishes))["ann"], "b")
        self.assertIsNone(otherwise(exchange, "ann", "cleo"))

    def test_hangs_against_all_wishes_of_the_other_one(self):
        sizes = set()
        for told in small_exchanges(156, 40, 4, 3):
            for name in told.people:
                had = outcome(told.exchange)[name]
                wanted = []
                for other in told.people:
                    others = [kind for kind in sorted(told.ranks) if kind != told.holds.get(other)]
                    can = {outcome(told.exchange.with_wishes(other, row))[name] for row in wish_lists(others)}
                    found = otherwise(told.exchange, name, other)
                    self.assertEqual(found is None, can == {had})
                    if found is not None:
                        self.assertNotEqual(outcome(told.exchange.with_wishes(other, found))[name], had)
                    if other != name and can != {had}:
                        wanted.append(other)
                self.assertEqual(hangs(told.exchange, name), wanted)
                sizes.add(len(wanted))
        self.assertLessEqual({0, 1, 2, 3}, sizes)

    def test_six_people_and_four_kinds(self):
        draw = DrawExchanges(157)
        for _ in range(6):
            told = draw.told(6, 4)
            for name in told.people:
                for other in hangs(told.exchange, name):
                    changed = told.exchange.with_wishes(other, otherwise(told.exchange, name, other))
                    self.assertNotEqual(outcome(changed)[name], outcome(told.exchange)[name])


class PlacedNaive(Naive):
    """A run gone through naively that keeps people as they were when they were placed."""

    def __init__(self, ranks, events):
        self.placed = []
        super().__init__(ranks, events)

    def give(self, time, one, kind):
        self.placed.append((time, dict(one), kind))
        super().give(time, one, kind)


def naive_exchange(ranks, events, time):
    """The exchange of [9.6] by the document's words."""
    naive = PlacedNaive(ranks, {one: event for one, event in events.items() if one <= time})
    placed = [(one, kind) for _, one, kind in naive.placed]
    people = [one for one, _ in placed] + naive.behind(time)[0]
    wishes = {one["name"]: one["wishes"][:one["wishes"].index(kind)] for one, kind in placed}
    wishes.update((one["name"], one["wishes"]) for one in naive.behind(time)[0])
    order = {}
    for kind in ranks:
        # Everybody stands in the rank, so everybody is taken to let the kind.
        row = [None] * len(people)
        all_letting = [dict(one, wishes=[kind]) for one in people]
        for one in all_letting:
            row[sum(is_ahead(ranks[kind], kind, other, one) for other in all_letting if other is not one)] = one["name"]
        order[kind] = row
    return Exchange(order, {one["name"]: kind for one, kind in placed}, wishes, naive.free(time))


class OfOfficeTest(unittest.TestCase):

    def test_told(self):
        office = Office({"a": ["points"], "b": ["late"]})
        events = {1: ("place", "b"), 2: ("come", "x", ("a", "b"), 5, None), 3: ("come", "y", ("b", "a"), 7, None),
                  4: ("come", "z", ("a",), 7, None), 5: ("change", "y", ("a", "b")), 6: ("place", "b")}
        run = run_of(Course(office, events))
        self.assertEqual(run.letters(), [(2, "x", "b"), (6, "y", "b")])
        self.assertEqual(exchange_of(run=run, time=5), Exchange(
            {"a": ["z", "y", "x"], "b": ["y", "z", "x"]}, {"x": "b"},
            {"x": ["a"], "y": ["a", "b"], "z": ["a"]}, {}))
        # y changed at 5, and is ranked by this time, also behind their letter.
        self.assertEqual(exchange_of(run, 10 ** 6), Exchange(
            {"a": ["z", "y", "x"], "b": ["y", "z", "x"]}, {"x": "b", "y": "b"},
            {"x": ["a"], "y": ["a"], "z": ["a"]}, {}))
        self.assertEqual(exchange_of(run, 1), Exchange({"a": [], "b": []}, {}, {}, {"b": 1}))
        self.assertEqual(exchange_of(run, 0), Exchange({"a": [], "b": []}, {}, {}, {}))

    def test_bad_times(self):
        run = run_of(Course(Office({"a": []}), {}))
        bare = run_of(Course(Office({}), {}))
        for thing in odd_objects() + [-1, 10 ** 6 + 1, "1", [1], True]:
            for one in (run, bare):
                with self.assertRaises(BadTime) as caught:
                    exchange_of(one, thing)
                self.assertIs(caught.exception.time, thing)

    def test_an_office_without_kinds(self):
        run = run_of(Course(Office({}), {1: ("come", "x", (), 0, None)}))
        self.assertEqual(run.waiting(1), ["x"])
        self.assertEqual(exchange_of(run, 1), Exchange({}, {}, {}, {}))

    def test_amid_gathered_lists_and_behind_rounds(self):
        office = Office({"a": ["points"]})
        events = {1: ("gather",), 2: ("come", "x", ("a",), 1, None), 3: ("come", "y", ("a",), 2, None),
                  4: ("place", "a"), 5: ("round",)}
        run = run_of(Course(office, events))
        self.assertEqual(exchange_of(run, 4), Exchange({"a": ["y", "x"]}, {}, {"x": ["a"], "y": ["a"]}, {"a": 1}))
        self.assertEqual(exchange_of(run, 5), Exchange({"a": ["y", "x"]}, {"y": "a"}, {"x": ["a"]}, {}))

    def test_against_a_going_of_its_own(self):
        draw = Draw(158)
        changed = 0
        for number in range(80):
            ranks = ALL_RANKS[number % len(ALL_RANKS)]
            events = draw.events(ranks, 12)
            run = run_of(Course(Office(ranks), events))
            for time in range(0, 27, 2):
                found = exchange_of(run, time)
                self.assertEqual(found, naive_exchange(ranks, events, time))
                changed += any(row != () for name, row in found.wishes().items() if name in found.holds())
        self.assertGreater(changed, 100)


class PaidTest(unittest.TestCase):

    def setUp(self):
        self.exchange = example()
        self.swap = (("ann", "b"), ("bob", "a"))
        self.whole = [self.swap, (("cleo", "c"),)]

    def test_items(self):
        self.assertEqual(way(self.exchange), self.whole)
        self.assertEqual(items_of(self.exchange, self.whole, {"a": 3, "c": 2}), [
            (("ann", "a", 1, "office"), ("office", "b", 1, "ann"), ("office", "coin", 3, "ann"),
             ("bob", "b", 1, "office"), ("office", "a", 1, "bob"), ("bob", "coin", 3, "office")),
            (("office", "c", 1, "cleo"), ("cleo", "coin", 2, "office"))])
        self.assertEqual(items_of(exchange=self.exchange, way=[list(map(list, self.swap))], table={"a": 3, "b": 1}), [
            (("ann", "a", 1, "office"), ("office", "b", 1, "ann"), ("ann", "coin", 1, "office"),
             ("office", "coin", 3, "ann"),
             ("bob", "b", 1, "office"), ("office", "a", 1, "bob"), ("bob", "coin", 3, "office"),
             ("office", "coin", 1, "bob"))])
        self.assertEqual(items_of(self.exchange, [], {}), [])

    def test_rings_that_give_nothing(self):
        exchange = Exchange({"a": ["x", "y"]}, {"x": "a"}, {}, {})
        self.assertEqual(way(exchange), [(("x", "a"),), (("y", None),)])
        self.assertEqual(items_of(exchange, way(exchange), {"a": 5}), [(), ()])

    def test_queues(self):
        found = queues_of(exchange=self.exchange, way=self.whole, table={"c": 2}, coins={"cleo": 2, "office": 4, "ann": 0})
        self.assertEqual(found, Queues({
            "ann": {"a": 1}, "bob": {"b": 1}, "cleo": {"coin": 2}, "office": {"c": 1, "coin": 4}},
            items_of(self.exchange, self.whole, {"c": 2})))
        self.assertEqual(paid(found), [0, 1])
        self.assertEqual(paid(queues_of(self.exchange, self.whole, {"c": 2}, {"cleo": 1})), [0])

    def test_errors_in_their_order(self):
        for thing, index in [(None, 0), ({}, 0), ("", 0), ([None], 0), ([self.swap, self.swap], 1),
                             ([self.whole[1]], 0), ([self.swap, (("cleo", None),)], 1)]:
            for call in (lambda: items_of(self.exchange, thing, None),
                         lambda: queues_of(self.exchange, thing, None, None)):
                with self.assertRaises(BadWay) as caught:
                    call()
                self.assertEqual(caught.exception.index, index)
        for thing in [None, [], (), "a", 3, True, self.exchange]:
            for call in (lambda: items_of(self.exchange, self.whole, thing),
                         lambda: queues_of(self.exchange, self.whole, thing, None)):
                with self.assertRaises(BadFee) as caught:
                    call()
                self.assertIs(caught.exception.thing, thing)
        for key in ["d", "", None, 1, True, ("a",), "ann"]:
            with self.assertRaises(BadFee) as caught:
                items_of(self.exchange, self.whole, {"b": 1, key: 1, "a": None})
            self.assertIs(caught.exception.thing, key)
        for many in [None, -1, True, False, "1", [1], {}]:
            with self.assertRaises(BadFee) as caught:
                queues_of(self.exchange, self.whole, {"b": 1, "a": many, "d": 1}, None)
            self.assertEqual(caught.exception.thing, "a")

    def test_bad_coins(self):
        for thing in [None, [], (), "a", 3, True, self.exchange]:
            with self.assertRaises(BadCoins) as caught:
                queues_of(self.exchange, self.whole, {}, thing)
            self.assertIs(caught.exception.thing, thing)
        for key in ["dan", "", None, 1, True, ("ann",), "a", "Office"]:
            with self.assertRaises(BadCoins) as caught:
                queues_of(self.exchange, self.whole, {}, {"ann": 1, key: 1, "bob": None})
            self.assertIs(caught.exception.thing, key)
        for many in [None, -1, True, False, "1", [1], {}]:
            with self.assertRaises(BadCoins) as caught:
                queues_of(self.exchange, self.whole, {}, {"office": 1, "bob": many, "dan": 1})
            self.assertEqual(caught.exception.thing, "bob")

    def test_held_against_sections_seven_and_nine(self):
        draw = DrawExchanges(159)
        for told in small_exchanges(160, 80):
            table = {kind: draw.rng.randint(0, 3) for kind in told.ranks if draw.rng.random() < 0.8}
            for going in told.whole_ways(4):
                items = items_of(told.exchange, going, table)
                self.assertEqual(len(items), len(going))
                for ring, item in zip(going, items):
                    for name, kind in ring:
                        own = told.holds.get(name)
                        gets = [leg for leg in item if leg[3] == name]
                        gives = [leg for leg in item if leg[0] == name]
                        if kind == own:
                            self.assertEqual(gets + gives, [])
                            continue
                        self.assertIn(("office", kind, 1, name), gets)
                        coins = sum(leg[2] for leg in gets if leg[1] == "coin") - sum(
                            leg[2] for leg in gives if leg[1] == "coin")
                        self.assertEqual(coins, table.get(own, 0) - table.get(kind, 0))
                        self.assertEqual([leg for leg in gives if leg[1] != "coin"],
                                         [] if own is None else [(name, own, 1, "office")])
                free = queues_of(told.exchange, going, {}, {})
                self.assertEqual(in_turn(free), list(range(len(going))))
                rich = {name: 100 for name in told.people + ["office"]}
                self.assertEqual(paid(queues_of(told.exchange, going, table, rich)), list(range(len(going))))

    def test_who_has_no_coins_holds_up_others(self):
        found = queues_of(self.exchange, self.whole, {"a": 3}, {"bob": 2})
        self.assertEqual(paid(found), [1])

    def test_what_is_passed_stays_and_what_is_returned_is_new(self):
        going, table, coins = [[["ann", "b"], ("bob", "a")]], {"a": 1}, {"ann": 1}
        given = {"ann": "b", "bob": "a", "cleo": None}
        items_of(self.exchange, going, table).clear()
        queues_of(self.exchange, going, table, coins)
        bettered(self.exchange, given)
        group(self.exchange, given)
        options(self.exchange, "ann").clear()
        hangs(self.exchange, "ann").clear()
        self.assertEqual((going, table, coins), ([[["ann", "b"], ("bob", "a")]], {"a": 1}, {"ann": 1}))
        self.assertEqual(given, {"ann": "b", "bob": "a", "cleo": None})
        self.assertEqual(options(self.exchange, "ann"), ["b", "a", "c"])
        self.assertEqual(hangs(self.exchange, "ann"), ["bob"])
        self.assertEqual(self.exchange, example())
        self.assertEqual(rings(self.exchange), [self.swap, (("cleo", "c"),)][:1])


if __name__ == "__main__":
    unittest.main()
