"""Ledgers: what is written when, and of what times; they only grow."""

from seatroads.checks import is_integer, is_list, is_name, is_time
from seatroads.courses import Course
from seatroads.entries import books_of, check_fees, corrections, is_account, is_balanced, is_rows, told_rows
from seatroads.errors import BadAccount, BadDeed, BadFloor, BadHearing, BadName, BadTime, BadTruth
from seatroads.runs import run_of


class Ledger:
    """Entries, each known from one time on and valid from another one, and closings."""

    def __init__(self, deeds=()):
        if not is_list(deeds):
            raise BadDeed(0)
        self._deeds = []
        # The entries as tuples (known, valid, booked, sums), sums as _sums tells them.
        self._entries = []
        written, closed = 0, -1
        for index, deed in enumerate(deeds):
            if not _is_deed(deed) or deed[1] < written or (deed[0] == "close" and deed[2] <= closed):
                raise BadDeed(index)
            written, valid = deed[1], deed[2]
            if deed[0] == "close":
                closed = valid
                self._deeds.append(("close", written, valid))
            else:
                rows = tuple(told_rows(deed[3]))
                self._deeds.append(("entry", written, valid, rows))
                self._entries.append((written, valid, max(valid, closed + 1), _sums(rows)))

    def deeds(self):
        """The list of the deeds, tuples throughout."""
        return list(self._deeds)

    def more(self, deed):
        """The ledger with one deed more."""
        return Ledger(self._deeds + [deed])

    def booked(self):
        """The list of the times at which the entries are booked, in order."""
        return [booked for _, _, booked, _ in self._entries]

    def balance(self, account, thing, known, valid):
        """The true balance of a time, as known at another one."""
        _check_account(account, thing)
        _check_times([known, valid])
        return sum([sums.get((account, thing), 0) for sums in self._true(known, valid)])

    def shown(self, account, thing, known, valid):
        """The shown balance of a time, as known at another one."""
        _check_account(account, thing)
        _check_times([known, valid])
        return sum([sums.get((account, thing), 0) for sums in self._booked(known, valid)])

    def balances(self, known, valid):
        """The ascending dict of all true balances that are not 0."""
        _check_times([known, valid])
        return _added(self._true(known, valid))

    def shown_balances(self, known, valid):
        """The ascending dict of all shown balances that are not 0."""
        _check_times([known, valid])
        return _added(self._booked(known, valid))

    def gap(self, known, valid):
        """The ascending dict of what the true balances are more than the shown ones."""
        unlike = _unlike(self.shown_balances(known, valid), self.balances(known, valid))
        return {key: unlike[key][1] - unlike[key][0] for key in unlike}

    def known_steps(self, account, thing, valid):
        """The pairs (known, amount) from when on the balance of a time was known as what."""
        _check_account(account, thing)
        _check_times([valid])
        steps = []
        before = 0
        for known in self._known_times():
            amount = self.balance(account, thing, known, valid)
            if amount != before:
                steps.append((known, amount))
            before = amount
        return steps

    def restated(self, one, other, valid):
        """The balances of a time that are known as others at other than at one, before and after."""
        _check_times([one, other, valid])
        return _unlike(self.balances(one, valid), self.balances(other, valid))

    def first_below(self, account, thing, floor, known):
        """The least time of which the balance as known then is below the floor, None if there is none."""
        _check_account(account, thing)
        _check_floor(floor)
        _check_times([known])
        # At times of no entry the balance stays what it was, and at first it is 0.
        for valid in sorted(set([entry[1] for entry in self._entries])):
            if self.balance(account, thing, known, valid) < floor:
                return valid
        return None

    def seen_below(self, account, thing, floor):
        """The pair of the least known time at which there is a time below the floor, and of this one."""
        _check_account(account, thing)
        _check_floor(floor)
        for known in self._known_times():
            valid = self.first_below(account, thing, floor, known)
            if valid is not None:
                return known, valid
        return None

    def __len__(self):
        return len(self._deeds)

    def __eq__(self, other):
        return isinstance(other, Ledger) and self._deeds == other._deeds

    def _known_times(self):
        """The ascending list of the times at which entries are written."""
        return sorted(set([entry[0] for entry in self._entries]))

    def _true(self, known, valid):
        """The sums of the entries written by known of times up to valid."""
        return [sums for written, time, _, sums in self._entries if written <= known and time <= valid]

    def _booked(self, known, valid):
        """The sums of the entries written by known that are booked at times up to valid."""
        return [sums for written, _, time, sums in self._entries if written <= known and time <= valid]


def ledger_of(office, hearings, fees):
    """The ledger of an office that hears truths: each hearing corrects the books."""
    courses = _courses_of(office, hearings)
    check_fees(fees)
    deeds = []
    books = []
    for known, course in courses:
        later = books_of(run_of(course), fees)
        deeds.extend([("entry", known, valid, rows) for valid, rows in corrections(books, later)])
        books = later
    return Ledger(deeds)


def _is_deed(thing):
    """Whether it is a deed, with rows that balance."""
    if not is_list(thing) or len(thing) < 3 or not is_time(thing[1]) or not is_time(thing[2]):
        return False
    if thing[0] == "close":
        return len(thing) == 3
    return thing[0] == "entry" and len(thing) == 4 and is_rows(thing[3]) and is_balanced(thing[3])


def _check_account(account, thing):
    if not is_account(account):
        raise BadAccount(account)
    if not is_name(thing):
        raise BadName(thing)


def _check_times(times):
    for time in times:
        if not is_time(time):
            raise BadTime(time)


def _check_floor(floor):
    if not is_integer(floor) or floor > 0:
        raise BadFloor(floor)


def _sums(rows):
    """The ascending dict from pairs (account, thing) to what their amounts add up to, without noughts."""
    return {(account, thing): amount for account, thing, amount in told_rows(rows)}


def _added(parts):
    """The sums of several sums."""
    return _sums([(key[0], key[1], sums[key]) for sums in parts for key in sums])


def _unlike(before, after):
    """The ascending dict of the pairs (before, after) where sums are not the same."""
    keys = sorted(set(list(before) + list(after)))
    pairs = {key: (before.get(key, 0), after.get(key, 0)) for key in keys}
    return {key: pairs[key] for key in pairs if pairs[key][0] != pairs[key][1]}


def _courses_of(office, hearings):
    """The pairs of each known time and of the course behind what is heard then."""
    if not is_list(hearings):
        raise BadHearing(0)
    course = Course(office, {})
    found = []
    ahead = -1
    for index, hearing in enumerate(hearings):
        if not is_list(hearing) or len(hearing) != 2 or not is_time(hearing[0]) or hearing[0] <= ahead:
            raise BadHearing(index)
        try:
            course = course.with_truths(hearing[1])
        except BadTruth:
            raise BadHearing(index) from None
        ahead = hearing[0]
        found.append((ahead, course))
    return found
