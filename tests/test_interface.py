"""The interface: names, parameters, and the very files in which they are defined."""

import importlib
import inspect
import unittest

from seatroads.courses import Course
from seatroads.ledgers import Ledger
from seatroads.offices import Office
from seatroads.roads import roads
from seatroads.runs import run_of

FUNCTIONS = {
    "events": {"is_event": ["office", "thing"]},
    "runs": {"run_of": ["course"]},
    "truths": {"is_truth": ["office", "thing"]},
    "roads": {"roads": ["course", "truths"]},
    "reach": {
        "gone_and_come": ["course", "truths"],
        "unlike_at": ["course", "truths", "time"],
        "even_from": ["course", "truths"],
        "touched": ["course", "truths"],
    },
    "explained": {
        "map_of_person": ["course", "wishes", "home"],
        "map_of_place": ["course", "kind"],
        "explained": ["course", "menu", "letters"],
    },
    "rounds": {
        "would_rather": ["meeting", "matching"],
        "is_stable": ["meeting", "thing"],
        "best": ["meeting", "side"],
        "refusals": ["meeting"],
        "is_refusals": ["meeting", "thing"],
    },
    "walks": {
        "one_more": ["meeting", "person"],
        "one_more_place": ["meeting", "kind"],
        "told_otherwise": ["meeting", "name", "wishes"],
        "told_less": ["meeting", "name"],
    },
    "lattices": {
        "stable_ones": ["meeting"],
        "how_many_stable": ["meeting"],
        "stable_number": ["meeting", "matching"],
        "stable_at": ["meeting", "number"],
        "can_pairs": ["meeting"],
        "sure_pairs": ["meeting"],
        "both_better": ["meeting", "one", "other"],
        "both_worse": ["meeting", "one", "other"],
        "turns": ["meeting"],
        "needs": ["meeting"],
        "turned": ["meeting", "numbers"],
    },
    "entries": {
        "told_rows": ["rows"],
        "is_balanced": ["rows"],
        "corrections": ["one", "other"],
        "books_of": ["run", "fees"],
    },
    "ledgers": {"ledger_of": ["office", "hearings", "fees"]},
    "settling": {
        "is_feasible": ["queues", "thing"],
        "paid": ["queues"],
        "holdings_after": ["queues", "numbers"],
        "in_turn": ["queues"],
        "bundles": ["queues", "numbers"],
        "paper": ["queues"],
        "is_paper": ["queues", "thing"],
        "freed_by": ["queues", "number", "member", "thing"],
        "least_freed": ["queues", "number", "thing"],
    },
    "debts": {
        "is_payments": ["debts", "thing"],
        "left_over": ["debts", "payments"],
        "settlement": ["debts", "by_coins"],
        "is_settlement": ["debts", "thing", "by_coins"],
        "greatest_payments": ["debts"],
        "least_payments": ["debts"],
        "loose_rings": ["debts"],
        "how_many_payments": ["debts"],
    },
    "failures": {
        "fails": ["debts", "payments"],
        "roots": ["debts"],
        "hangs_on": ["debts", "who"],
        "one_coin": ["debts", "member"],
        "cover": ["debts", "who"],
        "cover_by": ["debts", "who", "by"],
        "coin_queues": ["debts"],
    },
    "rings": {
        "rings": ["exchange", "way"],
        "is_way": ["exchange", "thing"],
        "way": ["exchange"],
        "how_many_ways": ["exchange"],
        "outcome": ["exchange"],
    },
}

DEFAULTS = {
    ("rounds", "best"): ("people",),
    ("debts", "settlement"): (False,),
    ("debts", "is_settlement"): (False,),
    ("rings", "rings"): ((),),
}

CLASSES = {
    "offices": {"Office": {"kinds": [], "rank": ["kind"], "__eq__": None, "__len__": [], "__contains__": None}},
    "courses": {"Course": {
        "events": [], "with_truths": ["truths"], "__eq__": None, "__len__": [], "__contains__": None}},
    "runs": {"Run": {
        "letters": [], "waiting": ["time"], "free": ["time"], "list_of": ["kind", "time"],
        "letter_of": ["name"], "__eq__": None}},
    "roads": {"Road": {"at": ["time"], "end": []}},
    "known": {"Known": {
        "hear": ["truth"], "heard": [], "course": [], "letters": [], "waiting": ["time"], "free": ["time"]}},
    "rounds": {"Meeting": {"people": [], "free": [], "ranked": ["kind"], "__eq__": None}},
    "ledgers": {"Ledger": {
        "deeds": [], "more": ["deed"], "booked": [],
        "balance": ["account", "thing", "known", "valid"], "shown": ["account", "thing", "known", "valid"],
        "balances": ["known", "valid"], "shown_balances": ["known", "valid"], "gap": ["known", "valid"],
        "known_steps": ["account", "thing", "valid"], "restated": ["one", "other", "valid"],
        "first_below": ["account", "thing", "floor", "known"], "seen_below": ["account", "thing", "floor"],
        "__len__": [], "__eq__": None}},
    "queues": {"Queues": {
        "holdings": [], "all_items": [], "members": [], "things": [], "queue": ["member", "thing"], "more": ["items"],
        "first": ["many"], "given": ["member", "thing", "many"], "__len__": [], "__eq__": None}},
    "debts": {"Debts": {
        "members": [], "coins": [], "debts": [], "owed": ["member"], "split": ["member", "many"],
        "given": ["member", "many"], "__eq__": None}},
    "rings": {"Exchange": {
        "people": [], "kinds": [], "ranks": [], "holds": [], "wishes": [], "free": [], "places": ["kind"],
        "with_wishes": ["person", "wishes"], "__eq__": None}},
}

MADE_BY_CALLERS = {
    "Office": ["ranks"],
    "Course": ["office", "events"],
    "Known": ["course"],
    "Meeting": ["office", "people", "free"],
    "Ledger": ["deeds"],
    "Queues": ["holdings", "items"],
    "Debts": ["coins", "debts"],
    "Exchange": ["ranks", "holds", "wishes", "free"],
}


def parameters(function):
    return list(inspect.signature(function).parameters)


class InterfaceTest(unittest.TestCase):

    def test_functions_stand_in_their_files_with_their_parameters(self):
        for file, told in FUNCTIONS.items():
            module = importlib.import_module("seatroads." + file)
            for name, wanted in told.items():
                function = getattr(module, name)
                self.assertTrue(inspect.isfunction(function), name)
                self.assertEqual(function.__module__, "seatroads." + file)
                self.assertEqual(parameters(function), wanted, name)
                self.assertEqual(function.__defaults__ or (), DEFAULTS.get((file, name), ()), name)

    def test_classes_define_their_methods_themselves(self):
        for file, told in CLASSES.items():
            module = importlib.import_module("seatroads." + file)
            for name, methods in told.items():
                made = getattr(module, name)
                self.assertTrue(inspect.isclass(made))
                self.assertEqual(made.__module__, "seatroads." + file)
                for method, wanted in methods.items():
                    self.assertIn(method, vars(made), name)
                    if wanted is not None:
                        self.assertEqual(parameters(vars(made)[method])[1:], wanted, method)

    def test_classes_are_made_with_the_shown_parameters(self):
        for told in CLASSES.values():
            for name in told:
                if name in MADE_BY_CALLERS:
                    file = [file for file in CLASSES if name in CLASSES[file]][0]
                    made = getattr(importlib.import_module("seatroads." + file), name)
                    self.assertEqual(parameters(made), MADE_BY_CALLERS[name])

    def test_attributes_are_set_when_objects_are_made(self):
        office = Office({"red": []})
        course = Course(office, {1: ("place", "red")})
        self.assertIs(course.office, office)
        self.assertIs(run_of(course).whole, course)
        self.assertEqual(inspect.signature(Ledger).parameters["deeds"].default, ())
        road, = roads(course, [("strike", 1)])
        self.assertEqual(sorted(vars(road)), ["higher", "steps", "truth"])


if __name__ == "__main__":
    unittest.main()
