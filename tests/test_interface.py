"""The interface: names, parameters, and the very files in which they are defined."""

import importlib
import inspect
import unittest

from seatroads.courses import Course
from seatroads.halls import end
from seatroads.judged import judged
from seatroads.ledgers import Ledger
from seatroads.letters import Told
from seatroads.offices import Office
from seatroads.roads import roads
from seatroads.rules import Table
from seatroads.runs import run_of

FUNCTIONS = {
    "events": {"is_event": ["office", "thing"]},
    "runs": {"run_of": ["course"]},
    "truths": {"is_truth": ["office", "thing"]},
    "roads": {"roads": ["course", "truths"]},
    "reach": {
        "gone_and_come": ["course", "truths"],
        "unlike_at": ["course", "truths", "time"],
        "even_from": ["course", "truths"],
        "touched": ["course", "truths"],
    },
    "explained": {
        "map_of_person": ["course", "wishes", "home"],
        "map_of_place": ["course", "kind"],
        "explained": ["course", "menu", "letters"],
    },
    "rounds": {
        "would_rather": ["meeting", "matching"],
        "is_stable": ["meeting", "thing"],
        "best": ["meeting", "side"],
        "refusals": ["meeting"],
        "is_refusals": ["meeting", "thing"],
    },
    "walks": {
        "one_more": ["meeting", "person"],
        "one_more_place": ["meeting", "kind"],
        "told_otherwise": ["meeting", "name", "wishes"],
        "told_less": ["meeting", "name"],
    },
    "lattices": {
        "stable_ones": ["meeting"],
        "how_many_stable": ["meeting"],
        "stable_number": ["meeting", "matching"],
        "stable_at": ["meeting", "number"],
        "can_pairs": ["meeting"],
        "sure_pairs": ["meeting"],
        "both_better": ["meeting", "one", "other"],
        "both_worse": ["meeting", "one", "other"],
        "turns": ["meeting"],
        "needs": ["meeting"],
        "turned": ["meeting", "numbers"],
    },
    "entries": {
        "told_rows": ["rows"],
        "is_balanced": ["rows"],
        "corrections": ["one", "other"],
        "books_of": ["run", "fees"],
    },
    "ledgers": {"ledger_of": ["office", "hearings", "fees"]},
    "settling": {
        "is_feasible": ["queues", "thing"],
        "paid": ["queues"],
        "holdings_after": ["queues", "numbers"],
        "in_turn": ["queues"],
        "bundles": ["queues", "numbers"],
        "paper": ["queues"],
        "is_paper": ["queues", "thing"],
        "freed_by": ["queues", "number", "member", "thing"],
        "least_freed": ["queues", "number", "thing"],
    },
    "debts": {
        "is_payments": ["debts", "thing"],
        "left_over": ["debts", "payments"],
        "settlement": ["debts", "by_coins"],
        "is_settlement": ["debts", "thing", "by_coins"],
        "greatest_payments": ["debts"],
        "least_payments": ["debts"],
        "loose_rings": ["debts"],
        "how_many_payments": ["debts"],
    },
    "failures": {
        "fails": ["debts", "payments"],
        "roots": ["debts"],
        "hangs_on": ["debts", "who"],
        "one_coin": ["debts", "member"],
        "cover": ["debts", "who"],
        "cover_by": ["debts", "who", "by"],
        "coin_queues": ["debts"],
    },
    "rings": {
        "rings": ["exchange", "way"],
        "is_way": ["exchange", "thing"],
        "way": ["exchange"],
        "how_many_ways": ["exchange"],
        "outcome": ["exchange"],
    },
    "exchanges": {
        "bettered": ["exchange", "outcome"],
        "group": ["exchange", "outcome"],
        "options": ["exchange", "person"],
        "hangs": ["exchange", "person"],
        "otherwise": ["exchange", "person", "other"],
        "exchange_of": ["run", "time"],
        "items_of": ["exchange", "way", "table"],
        "queues_of": ["exchange", "way", "table", "coins"],
    },
    "halls": {
        "is_hall": ["office", "thing"],
        "hall_of": ["run", "time"],
        "end": ["office", "hall", "row"],
    },
    "alike": {
        "alike": ["office", "one", "other"],
        "parting": ["office", "one", "other"],
        "worse_behind": ["office", "one", "other", "name"],
        "swaps": ["office", "row"],
        "needless": ["office", "row"],
    },
    "letters": {"explains": ["told", "wishes"]},
    "toldback": {
        "known_of": ["told", "time"],
        "clash": ["told"],
        "how_many_told": ["told"],
        "how_many_at": ["told", "time"],
        "wishes_at": ["told", "time", "number"],
        "wish_number": ["told", "time", "wishes"],
        "least_wishes": ["told"],
        "may_get": ["told", "kind"],
        "would_tell": ["told", "kind", "name"],
    },
    "rules": {
        "apart": ["one", "other"],
        "office_table": ["office", "people"],
        "other_table": ["office", "people", "rule"],
    },
    "judged": {
        "judged": ["table"],
        "lists": ["table"],
    },
    "back": {
        "back_run": ["office", "events"],
        "parted_back": ["office"],
    },
    "texts": {
        "write_office": ["office"],
        "read_office": ["text"],
        "write_events": ["events"],
        "read_events": ["office", "text"],
        "write_truths": ["truths"],
        "read_truths": ["office", "text"],
        "write_letters": ["letters"],
        "read_letters": ["text"],
    },
}

DEFAULTS = {
    ("rounds", "best"): ("people",),
    ("debts", "settlement"): (False,),
    ("debts", "is_settlement"): (False,),
    ("rings", "rings"): ((),),
}

CLASSES = {
    "offices": {"Office": {"kinds": [], "rank": ["kind"], "__eq__": None, "__len__": [], "__contains__": None}},
    "courses": {"Course": {
        "events": [], "with_truths": ["truths"], "__eq__": None, "__len__": [], "__contains__": None}},
    "runs": {"Run": {
        "letters": [], "waiting": ["time"], "free": ["time"], "list_of": ["kind", "time"],
        "letter_of": ["name"], "__eq__": None}},
    "roads": {"Road": {"at": ["time"], "end": []}},
    "known": {"Known": {
        "hear": ["truth"], "heard": [], "course": [], "letters": [], "waiting": ["time"], "free": ["time"]}},
    "rounds": {"Meeting": {"people": [], "free": [], "ranked": ["kind"], "__eq__": None}},
    "ledgers": {"Ledger": {
        "deeds": [], "more": ["deed"], "booked": [],
        "balance": ["account", "thing", "known", "valid"], "shown": ["account", "thing", "known", "valid"],
        "balances": ["known", "valid"], "shown_balances": ["known", "valid"], "gap": ["known", "valid"],
        "known_steps": ["account", "thing", "valid"], "restated": ["one", "other", "valid"],
        "first_below": ["account", "thing", "floor", "known"], "seen_below": ["account", "thing", "floor"],
        "__len__": [], "__eq__": None}},
    "queues": {"Queues": {
        "holdings": [], "all_items": [], "members": [], "things": [], "queue": ["member", "thing"], "more": ["items"],
        "first": ["many"], "given": ["member", "thing", "many"], "__len__": [], "__eq__": None}},
    "debts": {"Debts": {
        "members": [], "coins": [], "debts": [], "owed": ["member"], "split": ["member", "many"],
        "given": ["member", "many"], "__eq__": None}},
    "rings": {"Exchange": {
        "people": [], "kinds": [], "ranks": [], "holds": [], "wishes": [], "free": [], "places": ["kind"],
        "with_wishes": ["person", "wishes"], "__eq__": None}},
    "halls": {"End": {"__eq__": None}},
    "letters": {"Told": {
        "letters": [], "events": [], "waiting": ["time"], "free": ["time"], "asked": [], "__eq__": None}},
    "rules": {"Table": {
        "comers": [], "row": ["comer", "counts"], "after": ["book", "comer"], "after_all": ["book", "comers"],
        "__eq__": None}},
    "judged": {"Fault": {}},
    "live": {"Desk": {
        "tell": ["truth"], "course": [], "run": [], "ledger": [], "told": [], "undo": [], "again": [], "copy": [],
        "trial": ["work"], "__len__": []}},
}

MADE_BY_CALLERS = {
    "Office": ["ranks"],
    "Course": ["office", "events"],
    "Known": ["course"],
    "Meeting": ["office", "people", "free"],
    "Ledger": ["deeds"],
    "Queues": ["holdings", "items"],
    "Debts": ["coins", "debts"],
    "Exchange": ["ranks", "holds", "wishes", "free"],
    "Told": ["office", "events", "letters"],
    "Table": ["waits", "frees", "depth", "comers"],
    "Desk": ["office", "fees"],
}

FILES = sorted(set(FUNCTIONS) | set(CLASSES) | {"errors"})


def parameters(function):
    return list(inspect.signature(function).parameters)


class InterfaceTest(unittest.TestCase):

    def test_functions_stand_in_their_files_with_their_parameters(self):
        for file, told in FUNCTIONS.items():
            module = importlib.import_module("seatroads." + file)
            for name, wanted in told.items():
                function = getattr(module, name)
                self.assertTrue(inspect.isfunction(function), name)
                self.assertEqual(function.__module__, "seatroads." + file)
                self.assertEqual(parameters(function), wanted, name)
                self.assertEqual(function.__defaults__ or (), DEFAULTS.get((file, name), ()), name)

    def test_classes_define_their_methods_themselves(self):
        for file, told in CLASSES.items():
            module = importlib.import_module("seatroads." + file)
            for name, methods in told.items():
                made = getattr(module, name)
                self.assertTrue(inspect.isclass(made))
                self.assertEqual(made.__module__, "seatroads." + file)
                for method, wanted in methods.items():
                    self.assertIn(method, vars(made), name)
                    if wanted is not None:
                        self.assertEqual(parameters(vars(made)[method])[1:], wanted, method)

    def test_classes_are_made_with_the_shown_parameters(self):
        for told in CLASSES.values():
            for name in told:
                if name in MADE_BY_CALLERS:
                    file = [file for file in CLASSES if name in CLASSES[file]][0]
                    made = getattr(importlib.import_module("seatroads." + file), name)
                    self.assertEqual(parameters(made), MADE_BY_CALLERS[name])

    def test_attributes_are_set_when_objects_are_made(self):
        office = Office({"red": []})
        course = Course(office, {1: ("place", "red")})
        self.assertIs(course.office, office)
        self.assertIs(run_of(course).whole, course)
        self.assertEqual(inspect.signature(Ledger).parameters["deeds"].default, ())
        road, = roads(course, [("strike", 1)])
        self.assertEqual(sorted(vars(road)), ["higher", "steps", "truth"])
        self.assertIs(Told(office, {}, []).office, office)
        found = end(office, ([], {}), [])
        self.assertEqual((found.got, found.waits, found.rooms), ({}, [], {}))
        table = Table(["x"], ["a"], 2, {})
        self.assertEqual((table.waits, table.frees, table.depth), (("x",), ("a",), 2))
        fault = judged(Table([], ["a"], 1, {("person", "x"): {(0,): ((0,), ()), (1,): ((0,), ())}}))
        self.assertIsNone(fault)
        fault = judged(Table(["x"], ["a"], 1, {("person", "x"): {(0,): ((0,), (0,)), (1,): ((0,), (1,))}}))
        self.assertEqual((fault.book, fault.token, fault.comer), (((0,), (1,)), ("free", "a"), ("person", "x")))

    def test_everything_can_be_called_by_place_and_by_name(self):
        for file in FILES:
            module = importlib.import_module("seatroads." + file)
            made = [getattr(module, name) for name in list(FUNCTIONS.get(file, {})) + list(CLASSES.get(file, {}))]
            made += [vars(getattr(module, name))[method] for name, methods in CLASSES.get(file, {}).items()
                     for method in methods]
            if file == "errors":
                made += [error for error in vars(module).values()
                         if inspect.isclass(error) and error.__name__ not in ("OfficeError", "Nothing")]
            self.assertTrue(made)
            for function in made:
                for parameter in inspect.signature(function).parameters.values():
                    self.assertEqual(parameter.kind, parameter.POSITIONAL_OR_KEYWORD, function)

    def test_defaults_of_methods(self):
        for file, told in CLASSES.items():
            module = importlib.import_module("seatroads." + file)
            for name, methods in told.items():
                for method in methods:
                    self.assertIsNone(vars(getattr(module, name))[method].__defaults__)
        self.assertEqual(len(FILES), 30)


if __name__ == "__main__":
    unittest.main()
