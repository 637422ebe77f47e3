"""Failures: who cannot pay, on whom it hangs, and what would cover it."""

from seatroads.debts import check_member, check_payments, greatest_payments, least_payments, left_over
from seatroads.errors import NotFailing
from seatroads.queues import Queues


def fails(debts, payments):
    """The ascending list of the members that pay less than they owe."""
    check_payments(debts, payments)
    return [member for member in debts.members() if payments[member] < debts.owed(member)]


def roots(debts):
    """What the members lack that could not pay though all others paid what they owe."""
    has = debts.coins()
    told = debts.debts()
    for member in told:
        for to, many in told[member]:
            has[to] += many
    return {member: debts.owed(member) - has[member] for member in has if has[member] < debts.owed(member)}


def hangs_on(debts, who):
    """The others with each of whom alone, if it could pay all, a failing member would not fail."""
    check_member(debts, who)
    if not _fails(debts, who):
        raise NotFailing(who)
    others = [member for member in debts.members() if member != who]
    return [member for member in others if not _fails(debts.given(member, debts.owed(member)), who)]


def one_coin(debts, member):
    """Who keeps one coin more that is put to a member, and how often others give it on."""
    check_member(debts, member)
    # The coin could go round for very long, so it is not followed: where it went is
    # what the least payments, and what is left over, are more with it.
    richer = debts.given(member, 1)
    before, after = least_payments(debts), least_payments(richer)
    had, has = left_over(debts, before), left_over(richer, after)
    keeper = [other for other in has if has[other] > had[other]][0]
    return keeper, {other: after[other] - before[other] for other in after if after[other] > before[other]}


def cover(debts, who):
    """The least number of coins put to a member with which it does not fail."""
    check_member(debts, who)
    # What it gets back if it pays all is the same whatever it has left over.
    richer = debts.given(who, debts.owed(who))
    left = left_over(richer, greatest_payments(richer))[who]
    return max(0, debts.owed(who) - left)


def cover_by(debts, who, by):
    """The least number of coins put to one member with which another one does not fail, None if none is enough."""
    check_member(debts, who)
    check_member(debts, by)
    # Who can pay all gives no more with yet more coins.
    low, high = 0, debts.owed(by)
    if _fails(debts.given(by, high), who):
        return None
    while low < high:
        middle = (low + high) // 2
        if _fails(debts.given(by, middle), who):
            low = middle + 1
        else:
            high = middle
    return low


def coin_queues(debts):
    """The queues in which each debt is cut into items of one coin."""
    coins = debts.coins()
    told = debts.debts()
    items = [[(member, "coin", 1, to)] for member in told for to, many in told[member] for _ in range(many)]
    return Queues({member: {"coin": coins[member]} for member in coins}, items)


def _fails(debts, who):
    """Whether a member fails in the greatest payments."""
    return greatest_payments(debts)[who] < debts.owed(who)
