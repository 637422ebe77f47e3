"""Debts: who owes whom in which order, and what is paid of it."""

from seatroads.checks import is_integer, is_list, is_name
from seatroads.errors import BadCoins, BadDebts, BadName, BadNumber, NoMember, NotPayments
from seatroads.paying import Paying


class Debts:
    """The coins that members have, and what each owes to others, in the order in which it pays."""

    def __init__(self, coins, debts):
        _check_coins(coins)
        _check_debts(debts)
        told = [to for member in debts for to, _ in debts[member]]
        members = sorted(set(list(coins) + list(debts) + told))
        self._coins = {member: coins.get(member, 0) for member in members}
        self._debts = {member: [(to, many) for to, many in debts.get(member, [])] for member in members}

    def members(self):
        """The ascending list of the members."""
        return list(self._coins)

    def coins(self):
        """The ascending dict of the coins that the members have."""
        return dict(self._coins)

    def debts(self):
        """The ascending dict of the debts of the members, in the order in which they are paid."""
        return {member: list(self._debts[member]) for member in self._debts}

    def owed(self, member):
        """What a member owes in all."""
        check_member(self, member)
        return sum([many for _, many in self._debts[member]])

    def split(self, member, many):
        """What goes to each debt of a member if it pays so much."""
        owed = self.owed(member)
        if not is_integer(many) or not 0 <= many <= owed:
            raise BadNumber(many)
        parts = []
        left = many
        for _, lacking in self._debts[member]:
            parts.append(min(left, lacking))
            left -= parts[-1]
        return parts

    def given(self, member, many):
        """The debts with so many more coins for a member, perhaps a new one."""
        if not is_name(member):
            raise BadName(member)
        if not is_integer(many) or many < 0:
            raise BadNumber(many)
        coins = self.coins()
        coins[member] = coins.get(member, 0) + many
        return Debts(coins, self._debts)

    def __eq__(self, other):
        return isinstance(other, Debts) and self._coins == other._coins and self._debts == other._debts


def is_payments(debts, thing):
    """Whether it is payments: each member pays the lesser of what it owes and of what it has."""
    if not isinstance(thing, dict) or len(thing) != len(debts.members()):
        return False
    for member in debts.members():
        if member not in thing or not is_integer(thing[member]) or not 0 <= thing[member] <= debts.owed(member):
            return False
    left = Paying(debts, thing).at_hand()
    return all([left[member] >= 0 and (left[member] == 0 or thing[member] == debts.owed(member)) for member in left])


def left_over(debts, payments):
    """The ascending dict of what each member has behind payments."""
    check_payments(debts, payments)
    return Paying(debts, payments).at_hand()


def settlement(debts, by_coins=False):
    """A list of steps by which all is paid that can be."""
    steps, _ = _settled(debts, by_coins)
    return steps


def is_settlement(debts, thing, by_coins=False):
    """Whether it is a list of steps by which all is paid that can be."""
    if not is_list(thing):
        return False
    paying = Paying(debts, {})
    for step in thing:
        if not paying.is_step(step, by_coins):
            return False
        paying.do(step)
    return paying.next_step(by_coins) is None


def greatest_payments(debts):
    """The payments that are more than all others for each member."""
    _, paying = _settled(debts, False)
    return paying.paid()


def least_payments(debts):
    """The payments that are less than all others for each member."""
    _, paying = _settled(debts, True)
    return paying.paid()


def loose_rings(debts):
    """The rings that can be done behind the least payments, one after another, each as far as it can be."""
    _, paying = _settled(debts, True)
    found = []
    there = paying.rings()
    while there:
        members, many = there[0]
        paying.do_ring(members, many)
        found.append((members, many))
        there = paying.rings()
    return found


def how_many_payments(debts):
    """How many payments there are."""
    # Rings that have a member in common are done one behind the other, each wholly ahead of
    # the next one. So payments are told by the rings that are wholly done, and by how much,
    # from nothing on, is done of each ring that could be next.
    found = loose_rings(debts)
    ahead = [_sharing(found, number) for number in range(len(found))]
    total = 0
    layer = [()]
    while layer:
        later = {}
        for done in layer:
            following = [number for number in range(len(found)) if number not in done and _has_all(done, ahead[number])]
            total += _multiplied([found[number][1] for number in following])
            for number in following:
                later[tuple(sorted(done + (number,)))] = True
        layer = list(later)
    return total


def check_member(debts, member):
    """Raise NoMember if it is none."""
    if member not in debts.members():
        raise NoMember(member)


def check_payments(debts, payments):
    """Raise NotPayments if they are none."""
    if not is_payments(debts, payments):
        raise NotPayments(payments)


def _settled(debts, by_coins):
    """The steps of a settlement, and what is paid behind them."""
    paying = Paying(debts, {})
    steps = []
    step = paying.next_step(by_coins)
    while step is not None:
        paying.do(step)
        steps.append(step)
        step = paying.next_step(by_coins)
    return steps, paying


def _sharing(found, number):
    """The numbers of the rings ahead of one that have a member in common with it."""
    members = found[number][0]
    return [other for other in range(number) if any([member in members for member in found[other][0]])]


def _has_all(done, numbers):
    return all([number in done for number in numbers])


def _multiplied(numbers):
    result = 1
    for number in numbers:
        result *= number
    return result


def _check_coins(coins):
    if not isinstance(coins, dict):
        raise BadCoins(coins)
    for member in coins:
        if not is_name(member) or not is_integer(coins[member]) or coins[member] < 0:
            raise BadCoins(member)


def _check_debts(debts):
    if not isinstance(debts, dict):
        raise BadDebts(debts)
    for member in debts:
        if not is_name(member) or not _is_row(member, debts[member]):
            raise BadDebts(member)


def _is_row(member, thing):
    """Whether it is a list of debts of the member, to others."""
    return is_list(thing) and all([_is_debt(member, debt) for debt in thing])


def _is_debt(member, thing):
    if not is_list(thing) or len(thing) != 2 or not is_name(thing[0]) or thing[0] == member:
        return False
    return is_integer(thing[1]) and thing[1] >= 1
