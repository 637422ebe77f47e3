"""Rows of double books, and the books of a run."""

from seatroads.checks import GREATEST, frozen, is_integer, is_list, is_name, is_time
from seatroads.errors import BadBooks, BadFee, BadRow

TILL = "the-till"
POOL = "the-pool"


def told_rows(rows):
    """The rows with each account and thing once, ascending, amounts added up, without noughts."""
    _check_rows(rows)
    sums = {}
    for account, thing, amount in rows:
        sums[account, thing] = sums.get((account, thing), 0) + amount
    return [(account, thing, sums[account, thing]) for account, thing in sorted(sums) if sums[account, thing] != 0]


def is_balanced(rows):
    """Whether the amounts of each thing add up to 0."""
    _check_rows(rows)
    sums = {}
    for _, thing, amount in rows:
        sums[thing] = sums.get(thing, 0) + amount
    return all([total == 0 for total in sums.values()])


def corrections(one, other):
    """The books by which the one must be corrected to have the balances of the other ones."""
    _check_books(one)
    _check_books(other)
    rows = {}
    for valid, added in other:
        rows[valid] = list(added)
    for valid, taken in one:
        rows[valid] = rows.get(valid, []) + _reversed(taken)
    return _books({valid: rows[valid] for valid in sorted(rows)})


def books_of(run, fees):
    """The books of a run: what comes about at each of its times."""
    check_fees(fees)
    deposit, table = fees
    rows = {}
    waited = []
    for time in run.whole.events():
        waits = run.waiting(time)
        begin = [name for name in waits if name not in waited]
        end = [name for name in waited if name not in waits]
        rows[time] = [row for name in begin for row in _paid(name, POOL, "coin", deposit)]
        rows[time].extend([row for name in end for row in _paid(POOL, name, "coin", deposit)])
        waited = waits
    for time, name, kind in run.letters():
        rows[time].extend(_paid(name, TILL, "coin", table.get(kind, 0)) + _paid(TILL, name, "seat", 1))
    return _books(rows)


def is_account(thing):
    """Whether it is an account."""
    return is_name(thing) or thing in (TILL, POOL)


def is_rows(thing):
    """Whether it is a list of rows."""
    return is_list(thing) and all([_is_row(row) for row in thing])


def check_fees(fees):
    """Raise BadFee if fees are none."""
    if not is_list(fees) or len(fees) != 2:
        raise BadFee(fees)
    deposit, table = fees
    if not _is_fee(deposit):
        raise BadFee(deposit)
    if not isinstance(table, dict):
        raise BadFee(table)
    for kind in table:
        if not is_name(kind) or not _is_fee(table[kind]):
            raise BadFee(kind)


def _is_fee(thing):
    return is_integer(thing) and 0 <= thing <= GREATEST


def _is_row(thing):
    return is_list(thing) and len(thing) == 3 and is_account(thing[0]) and is_name(thing[1]) and is_integer(thing[2])


def _check_rows(rows):
    if not is_list(rows):
        raise BadRow(0)
    for index, row in enumerate(rows):
        if not _is_row(row):
            raise BadRow(index)


def _check_books(books):
    if not is_list(books):
        raise BadBooks(0)
    ahead = -1
    for index, page in enumerate(books):
        if not _is_page(page) or page[0] <= ahead:
            raise BadBooks(index)
        ahead = page[0]


def _is_page(thing):
    """Whether it is a pair of a time and of rows as books tell them."""
    if not is_list(thing) or len(thing) != 2 or not is_time(thing[0]) or not is_rows(thing[1]):
        return False
    rows = thing[1]
    return len(rows) > 0 and is_balanced(rows) and frozen(told_rows(rows)) == frozen(rows)


def _books(rows):
    """The books of rows by their times, ascending, without times of which none are left."""
    told = [(valid, told_rows(rows[valid])) for valid in rows]
    return [(valid, left) for valid, left in told if left]


def _paid(giver, taker, thing, many):
    """The rows by which one gives so many of a thing to another one."""
    return [(giver, thing, -many), (taker, thing, many)]


def _reversed(rows):
    """The rows that take back what rows tell."""
    return [(account, thing, -amount) for account, thing, amount in rows]
