"""Known: a run that hears truths one by one."""

from seatroads.checks import frozen
from seatroads.roads import roads
from seatroads.runs import run_of


class Known:
    """What is known of a run, behind all truths that were heard of it."""

    def __init__(self, course):
        self._run = run_of(course)
        self._heard = []

    def hear(self, truth):
        """Hear one truth, and return the list of its roads."""
        found = roads(self._run.whole, [truth])
        self._run = run_of(self._run.whole.with_truths([truth]))
        self._heard.append(frozen(truth))
        return found

    def heard(self):
        """The list of the truths that were heard, in their order."""
        return list(self._heard)

    def course(self):
        """The course with all that was heard."""
        return self._run.whole

    def letters(self):
        """The list of the letters, as of a run."""
        return self._run.letters()

    def waiting(self, time):
        """The names of those who wait behind the events up to a time, as of a run."""
        return self._run.waiting(time)

    def free(self, time):
        """The numbers of free places behind the events up to a time, as of a run."""
        return self._run.free(time)
