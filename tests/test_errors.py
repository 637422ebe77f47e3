"""[2.2] and seatroads/errors.py of the interface."""

import unittest

from seatroads import errors
from seatroads.errors import Nothing, OfficeError

LISTED = """BadRank(kind), BadKind(kind), BadEvent(time), BadTime(time), NoPerson(name), BadTruth(index), NoRoad(index),
BadLetter(index), BadWishes(thing), BadPerson(index), BadFree(thing), BadMatching(thing), BadSide(side),
NotStable(matching), BadNumber(number), BadTurns(numbers), BadRow(index), BadDeed(index), BadAccount(account),
BadName(thing), BadFloor(floor), BadBooks(index), BadFee(thing), BadHearing(index), BadHoldings(thing), BadItem(index),
NotFeasible(numbers), BadCoins(thing), BadDebts(thing), NoMember(member), NotPayments(thing), NotFailing(who),
BadHolds(thing), BadWay(index), BadOutcome(outcome), BadHall(hall), NotAsked(time), BadTable(part), BadComer(comer),
BadCounts(counts), BadBook(book), BadPeople(name), BadRule(rule), BadText(line)"""


def listed():
    """The pairs of the name of an error and of its parameter."""
    return [tuple(part.strip().rstrip(")").split("(")) for part in LISTED.split(",")]


class ErrorsTest(unittest.TestCase):

    def test_the_base_is_a_direct_value_error(self):
        self.assertEqual(OfficeError.__bases__, (ValueError,))
        self.assertEqual(OfficeError.__module__, "seatroads.errors")

    def test_all_are_there_each_a_direct_subclass_defined_here(self):
        self.assertEqual(len(listed()), 44)
        for name, _ in listed() + [("Nothing", None)]:
            error = getattr(errors, name)
            self.assertEqual(error.__bases__, (OfficeError,), name)
            self.assertEqual(error.__name__, name)
            self.assertEqual(error.__module__, "seatroads.errors")

    def test_no_two_are_one(self):
        made = [getattr(errors, name) for name, _ in listed()]
        self.assertEqual(len(set(made)), 44)

    def test_each_keeps_the_very_object_by_place_and_by_name(self):
        for name, parameter in listed():
            for thing in ([1, [2]], {"a": []}, None, object()):
                by_place = getattr(errors, name)(thing)
                by_name = getattr(errors, name)(**{parameter: thing})
                self.assertIs(getattr(by_place, parameter), thing, name)
                self.assertIs(getattr(by_name, parameter), thing, name)

    def test_each_takes_just_one_thing(self):
        for name, parameter in listed():
            with self.assertRaises(TypeError):
                getattr(errors, name)()
            with self.assertRaises(TypeError):
                getattr(errors, name)(1, 2)

    def test_each_can_be_raised_and_caught_by_the_base(self):
        for name, parameter in listed():
            with self.assertRaises(OfficeError):
                raise getattr(errors, name)(7)

    def test_nothing_takes_nothing(self):
        with self.assertRaises(OfficeError):
            raise Nothing()


if __name__ == "__main__":
    unittest.main()
