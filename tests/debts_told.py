"""Debts that the tests share, and the document's words on them gone through naively."""

import random
from itertools import product

from seatroads.debts import Debts

GREAT = 10 ** 13


class ToldDebts:
    """Debts told plainly, with the program's object."""

    def __init__(self, coins, debts):
        self.debts = Debts(coins, debts)
        told = [to for row in debts.values() for to, _ in row]
        self.members = sorted(set(coins) | set(debts) | set(told))
        self.coins = {member: coins.get(member, 0) for member in self.members}
        self.rows = {member: [tuple(debt) for debt in debts.get(member, [])] for member in self.members}

    def owed(self, member):
        return sum(many for _, many in self.rows[member])

    def split(self, member, many):
        parts = []
        for _, lacking in self.rows[member]:
            parts.append(max(0, min(lacking, many - sum(parts))))
        return parts

    def got(self, payments):
        """What each member has by payments: its coins, and what the others give it."""
        has = dict(self.coins)
        for member in self.members:
            for (to, _), part in zip(self.rows[member], self.split(member, payments[member])):
                has[to] += part
        return has

    def is_payments(self, payments):
        has = self.got(payments)
        return all(payments[member] == min(self.owed(member), has[member]) for member in self.members)

    def all_payments(self):
        rows = product(*[range(self.owed(member) + 1) for member in self.members])
        found = [dict(zip(self.members, row)) for row in rows]
        return [payments for payments in found if self.is_payments(payments)]

    def most(self):
        found = self.all_payments()
        most = {member: max(payments[member] for payments in found) for member in self.members}
        assert most in found
        return most

    def least(self):
        found = self.all_payments()
        least = {member: min(payments[member] for payments in found) for member in self.members}
        assert least in found
        return least

    def left(self, payments):
        has = self.got(payments)
        return {member: has[member] - payments[member] for member in self.members}

    def fails(self, payments):
        return [member for member in self.members if payments[member] < self.owed(member)]

    def with_coins(self, shares):
        coins = dict(self.coins)
        for member, many in shares.items():
            coins[member] = coins.get(member, 0) + many
        return ToldDebts(coins, self.rows)


class Steps:
    """Debts paid step by step, by the words of [8.3]."""

    def __init__(self, told, payments=None):
        self.told = told
        self.paid = {member: (payments or {}).get(member, 0) for member in told.members}

    def hand(self, member):
        return self.told.got(self.paid)[member] - self.paid[member]

    def head(self, member):
        """The next debt: to whom, and what of it lacks; None if there is none."""
        for (to, many), part in zip(self.told.rows[member], self.told.split(member, self.paid[member])):
            if part < many:
                return to, many - part
        return None

    def rings(self):
        """All rings that there are, with how far each can be done."""
        found = []
        for member in self.told.members:
            row = [member]
            while self.head(row[-1]) is not None and self.head(row[-1])[0] not in row:
                row.append(self.head(row[-1])[0])
            if self.head(row[-1]) is not None and self.head(row[-1])[0] == member and min(row) == member:
                found.append((tuple(row), min(self.head(one)[1] for one in row)))
        return found

    def pays(self):
        return [(member, min(self.hand(member), self.head(member)[1])) for member in self.told.members
                if self.head(member) is not None and self.hand(member) > 0]

    def can(self, step, by_coins):
        word, who, many = step
        if many < 1:
            return False
        if word == "pay":
            return many <= dict(self.pays()).get(who, 0)
        if word != "ring" or many > dict(self.rings()).get(tuple(who), 0):
            return False
        return not by_coins or any(self.hand(member) > 0 for member in who)

    def do(self, step):
        for member in [step[1]] if step[0] == "pay" else step[1]:
            self.paid[member] += step[2]

    def is_over(self, by_coins):
        return not self.pays() and (by_coins or not self.rings())


def is_settlement(told, steps, by_coins):
    going = Steps(told)
    for step in steps:
        if not going.can(step, by_coins):
            return False
        going.do(step)
    return going.is_over(by_coins)


class DrawDebts:
    """Debts drawn by a fixed seed."""

    def __init__(self, seed):
        self.rng = random.Random(seed)

    def told(self, members, debts, most):
        names = ["a", "b", "c", "d", "e", "f", "g"][:members]
        rows = {}
        for member in names:
            others = [other for other in names if other != member]
            if others and self.rng.random() < 0.9:
                rows[member] = [(self.rng.choice(others), self.rng.randint(1, most))
                                for _ in range(self.rng.randint(0, debts))]
        coins = {member: self.rng.choice([0, 0, 1, 2]) for member in names if self.rng.random() < 0.6}
        return ToldDebts(coins, rows)

    def ringed(self, most):
        """Debts with rings, of few coins."""
        rows = {}
        for _ in range(self.rng.randint(1, 4)):
            names = self.rng.sample("abcd", self.rng.randint(2, 3))
            for place, member in enumerate(names):
                rows.setdefault(member, []).append((names[(place + 1) % len(names)], self.rng.randint(1, most)))
        rows = {member: row[:2] for member, row in rows.items()}
        return ToldDebts({self.rng.choice("abcd"): self.rng.choice([0, 0, 0, 1])}, rows)

    def settlement(self, told, by_coins):
        """Steps drawn one after another until none can be done."""
        going, steps = Steps(told), []
        while not going.is_over(by_coins):
            there = [("pay", member, many) for member, many in going.pays()]
            there += [("ring", members, many) for members, many in going.rings()]
            there = [step for step in there if going.can(step, by_coins)]
            word, who, many = self.rng.choice(there)
            step = (word, who, self.rng.randint(1, many))
            going.do(step)
            steps.append(step)
        return steps, going.paid


def small_debts(seed, many):
    draw = DrawDebts(seed)
    found = []
    for number in range(many):
        if number % 2:
            found.append(draw.ringed(3))
        else:
            found.append(draw.told(draw.rng.randint(1, 4), 2, draw.rng.choice([1, 2, 3])))
    return [told for told in found if total_ways(told) < 3000]


def total_ways(told):
    ways = 1
    for member in told.members:
        ways *= told.owed(member) + 1
    return ways


def great_rings():
    """Seven members with six great debts each, in rings of which no coin moves any."""
    names = ["a", "b", "c", "d", "e", "f", "g"]
    rows = {member: [(names[(place + step) % 7], GREAT - step * place) for step in (1, 2, 3, 4, 5, 6)]
            for place, member in enumerate(names)}
    return ToldDebts({}, rows)
