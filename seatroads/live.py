"""A live office: a desk that hears truths, and can take them back."""

from seatroads.checks import frozen
from seatroads.courses import Course
from seatroads.entries import check_fees
from seatroads.errors import Nothing
from seatroads.ledgers import ledger_of
from seatroads.reach import gone_and_come
from seatroads.runs import run_of


class Desk:
    """An office at work, with all truths that were told of its course."""

    def __init__(self, office, fees):
        check_fees(fees)
        deposit, table = fees
        self._fees = (deposit, dict(table))
        self._course = Course(office, {})
        # Neither list is ever changed, only put in place of another one, so that copies
        # and trials can keep it.
        self._standing = []
        self._undone = []

    def tell(self, truth):
        """Do a deed, and return the letters that it strikes, and those that are new."""
        letters = gone_and_come(self._course, [truth])
        self._do(frozen(truth))
        self._undone = []
        return letters

    def course(self):
        """The course as it stands now."""
        return self._course

    def run(self):
        """The run of the course as it stands now."""
        return run_of(self._course)

    def ledger(self):
        """The ledger of all deeds that stand, each known from its number on."""
        hearings = [(index + 1, [truth]) for index, truth in enumerate(self._standing)]
        return ledger_of(self._course.office, hearings, self._fees)

    def told(self):
        """The list of the truths that stand."""
        return list(self._standing)

    def undo(self):
        """Take the last deed back that is not taken back yet, and return it."""
        if not self._standing:
            raise Nothing()
        truth = self._standing[-1]
        self._standing = self._standing[:-1]
        self._undone = self._undone + [truth]
        self._course = Course(self._course.office, {}).with_truths(self._standing)
        return truth

    def again(self):
        """Do the deed again that was taken back last, and return it."""
        if not self._undone:
            raise Nothing()
        truth = self._undone[-1]
        self._undone = self._undone[:-1]
        self._do(truth)
        return truth

    def copy(self):
        """Another desk that is as this one is."""
        other = Desk(self._course.office, self._fees)
        other._course = self._course
        other._standing = self._standing
        other._undone = self._undone
        return other

    def trial(self, work):
        """Return what a function returns that is called with the desk, and leave all as it was."""
        course, standing, undone = self._course, self._standing, self._undone
        try:
            return work(self)
        finally:
            self._course, self._standing, self._undone = course, standing, undone

    def __len__(self):
        return len(self._standing)

    def _do(self, truth):
        self._course = self._course.with_truths([truth])
        self._standing = self._standing + [truth]
