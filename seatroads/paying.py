"""Paying: debts that are paid step by step."""

from seatroads.checks import frozen, is_integer, is_list
from seatroads.cycles import cycles


class Paying:
    """What of debts is paid so far, and what coins are at hand then."""

    def __init__(self, debts, payments):
        self._hand = debts.coins()
        # What lacks of the debts of each member, without those that it has wholly paid.
        self._left = debts.debts()
        self._paid = {member: 0 for member in self._hand}
        for member in payments:
            self._pay(member, payments[member])

    def at_hand(self):
        """The ascending dict of the coins that the members have at hand."""
        return dict(self._hand)

    def paid(self):
        """The ascending dict of what the members have paid so far."""
        return dict(self._paid)

    def rings(self):
        """The pairs (members, many) of the rings that there are, and of how far each can be done."""
        heads = {member: self._left[member][0] for member in self._left if self._left[member]}
        rows = cycles({member: heads[member][0] for member in heads})
        return [(tuple(row), min([heads[member][1] for member in row])) for row in rows]

    def do_ring(self, members, many):
        """Let each member of a ring pay so many, all at once."""
        for member in members:
            self._pay(member, many)

    def next_step(self, by_coins):
        """A step that can be done, as far as it can be; None if there is none."""
        # While nobody stands in a ring that could be done, coins only go along rows of
        # members; who gets none from the others pays first, so that each pays once.
        for members, many in self.rings():
            if not by_coins or self._has_coin(members):
                return ("ring", members, many)
        payers = self._payers()
        if not payers:
            return None
        payer = max(payers, key=lambda member: self._reach(member))
        return ("pay", payer, self._most(payer))

    def is_step(self, thing, by_coins):
        """Whether it is a step that can be done."""
        if not is_list(thing) or len(thing) != 3 or not is_integer(thing[2]) or thing[2] < 1:
            return False
        if thing[0] == "pay":
            return thing[1] in self._payers() and thing[2] <= self._most(thing[1])
        if thing[0] != "ring":
            return False
        members = frozen(thing[1])
        for row, many in self.rings():
            if members == row:
                return thing[2] <= many and (not by_coins or self._has_coin(row))
        return False

    def do(self, step):
        """Do a step that can be done."""
        if step[0] == "pay":
            self._pay(step[1], step[2])
        else:
            self.do_ring(step[1], step[2])

    def _payers(self):
        """The members that have a coin at hand and a debt that is not wholly paid."""
        return [member for member in self._hand if self._hand[member] > 0 and self._left[member]]

    def _has_coin(self, members):
        return any([self._hand[member] > 0 for member in members])

    def _most(self, member):
        """How many coins a member can pay to its next debt."""
        return min(self._hand[member], self._left[member][0][1])

    def _reach(self, member):
        """To how many members next debts lead one after another from this one on."""
        row = [member]
        while self._left[row[-1]] and self._left[row[-1]][0][0] not in row:
            row.append(self._left[row[-1]][0][0])
        return len(row)

    def _pay(self, member, many):
        """Give so many of a member to its debts, one after another in order."""
        rest = many
        while rest > 0:
            to, lacking = self._left[member].pop(0)
            part = min(rest, lacking)
            if part < lacking:
                self._left[member].insert(0, (to, lacking - part))
            self._hand[to] += part
            rest -= part
        self._hand[member] -= many
        self._paid[member] += many
