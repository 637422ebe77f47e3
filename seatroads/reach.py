"""Reach: what truths change in a run, and what they leave as it is."""

from seatroads.runs import run_of
from seatroads.tokens import times_of


def gone_and_come(course, truths):
    """The letters that only the run known has, and those that only the new one has."""
    old, new = _both(course, truths)
    return _only(old.letters(), new.letters()), _only(new.letters(), old.letters())


def unlike_at(course, truths, time):
    """Who waits in the new run alone, who in the old one alone, and how free places differ."""
    old, new = _both(course, truths)
    waited = old.waiting(time)
    waits = new.waiting(time)
    return _only(waits, waited), _only(waited, waits), _more(old.free(time), new.free(time))


def even_from(course, truths):
    """The least time from which on both runs are even, None if there is none."""
    old, new = _both(course, truths)
    since = 0
    for time in times_of(old, new):
        if not _are_even(old, new, time):
            since = None
        elif since is None:
            since = time
    return since


def touched(course, truths):
    """The people who come in both runs, and have no places there of one kind."""
    old, new = _both(course, truths)
    both = [name for name in old.comers() if name in new.comers()]
    return sorted([name for name in both if _kind_of(old, name) != _kind_of(new, name)])


def _both(course, truths):
    return run_of(course), run_of(course.with_truths(truths))


def _only(some, others):
    """The ascending list of those that do not stand among the others."""
    return sorted([one for one in some if one not in others])


def _more(before, after):
    """How many more there are of each kind than before, ascending, without noughts."""
    kinds = sorted(set(list(before) + list(after)))
    more = {kind: after.get(kind, 0) - before.get(kind, 0) for kind in kinds}
    return {kind: more[kind] for kind in more if more[kind] != 0}


def _are_even(one, other, time):
    return sorted(one.waiting(time)) == sorted(other.waiting(time)) and one.free(time) == other.free(time)


def _kind_of(run, name):
    letter = run.letter_of(name)
    return None if letter is None else letter[2]
