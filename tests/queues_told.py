"""Queues that the tests share, and the document's words on them gone through naively."""

import random
from itertools import combinations

from seatroads.queues import Queues

GREAT = 10 ** 15


class ToldQueues:
    """Queues told plainly: holdings by pairs, and items, with the program's object."""

    def __init__(self, holdings, items):
        self.holdings = {member: dict(held) for member, held in holdings.items()}
        self.items = [tuple(tuple(leg) for leg in item) for item in items]
        self.queues = Queues(holdings, items)

    def held(self, member, thing):
        return self.holdings.get(member, {}).get(thing, 0)

    def places(self):
        """All pairs of a member and a thing that it gives."""
        return sorted({(leg[0], leg[1]) for item in self.items for leg in item})

    def line(self, member, thing):
        return [number for number, item in enumerate(self.items)
                if any(leg[:2] == (member, thing) for leg in item)]

    def out(self, member, thing, numbers):
        return sum(leg[2] for number in numbers for leg in self.items[number] if leg[:2] == (member, thing))

    def income(self, member, thing, numbers):
        return sum(leg[2] for number in numbers for leg in self.items[number] if leg[3] == member and leg[1] == thing)

    def is_feasible(self, numbers):
        for member, thing in self.places():
            line = self.line(member, thing)
            for number in line:
                if number in numbers and any(other not in numbers for other in line if other < number):
                    return False
            if self.held(member, thing) + self.income(member, thing, numbers) < self.out(member, thing, numbers):
                return False
        return True

    def feasible_sets(self):
        """All feasible sets, fewer items first, then in the order of tuples."""
        return [chosen for many in range(len(self.items) + 1)
                for chosen in combinations(range(len(self.items)), many) if self.is_feasible(chosen)]

    def greatest(self):
        """The feasible set with the most items, of which all others are parts."""
        found = self.feasible_sets()
        for numbers in found:
            assert set(numbers) <= set(found[-1])
        return list(found[-1])

    def after(self, numbers):
        """What is held behind some items, without noughts, ascending."""
        members = {leg[side] for item in self.items for leg in item for side in (0, 3)} | set(self.holdings)
        things = {leg[1] for item in self.items for leg in item}
        things |= {thing for held in self.holdings.values() for thing in held}
        found = {}
        for member in sorted(members):
            held = {thing: self.held(member, thing) + self.income(member, thing, numbers)
                    - self.out(member, thing, numbers) for thing in sorted(things)}
            if any(held.values()):
                found[member] = {thing: many for thing, many in held.items() if many}
        return found

    def in_turn(self, order):
        """The items that go one after another, tried again and again in an order."""
        gone = []
        for _ in self.items:
            for number in order:
                if number not in gone and self.is_feasible(gone + [number]):
                    gone.append(number)
        return sorted(gone)

    def bundles(self, numbers):
        feasible = [set(one) - set(numbers) for one in self.feasible_sets() if set(numbers) < set(one)]
        least = [one for one in feasible if not any(other < one for other in feasible)]
        return sorted([tuple(sorted(one)) for one in least], key=lambda one: (len(one), one))

    def is_paper(self, paper):
        """The words of [7.4], for pairs of a number and a tuple of the right words and kinds."""
        for place, (number, why) in enumerate(paper):
            ahead = [other for other, _ in paper[:place]]
            if number in ahead:
                return False
            if why[0] == "behind":
                lines = [self.line(member, thing) for member, thing in self.places()]
                if why[1] not in ahead or why[1] >= number:
                    return False
                if not any(why[1] in line and number in line for line in lines):
                    return False
            else:
                line = self.line(why[1], why[2])
                others = [other for other in range(len(self.items)) if other not in ahead]
                ours = [other for other in line if other <= number]
                if number not in line:
                    return False
                if self.held(why[1], why[2]) + self.income(why[1], why[2], others) >= self.out(why[1], why[2], ours):
                    return False
        return True

    def with_given(self, shares, thing):
        holdings = {member: dict(held) for member, held in self.holdings.items()}
        for member, many in shares.items():
            held = holdings.setdefault(member, {})
            held[thing] = held.get(thing, 0) + many
        return ToldQueues(holdings, self.items)


class DrawQueues:
    """Queues drawn by a fixed seed."""

    def __init__(self, seed):
        self.rng = random.Random(seed)

    def leg(self, members, most):
        giver, taker = self.rng.sample(members, 2)
        return (giver, self.rng.choice(["coin", "coin", "seat"]), self.rng.randint(1, most), taker)

    def ringed(self, many):
        """Queues of rings, shuffled, with a little that is held."""
        items = []
        while len(items) < many:
            members = ["a", "b", "c", "d"]
            self.rng.shuffle(members)
            thing = self.rng.choice(["coin", "seat"])
            ring = [[(leg[0], thing, leg[2], leg[3])] for leg, in ring_of(members[:self.rng.randint(2, 3)], 1)]
            items.extend(ring)
        self.rng.shuffle(items)
        if self.rng.random() < 0.5:
            items[0].append(("a", "coin", 1, "b"))
        holdings = {self.rng.choice("abcd"): {self.rng.choice(["coin", "seat"]): self.rng.choice([0, 0, 1])}}
        return ToldQueues(holdings, items[:6])

    def told(self, many, most=2):
        members = ["a", "b", "c", "d"][:self.rng.randint(2, 4)]
        items = [[self.leg(members, most) for _ in range(self.rng.choice([0, 1, 1, 1, 2, 2, 3]))]
                 for _ in range(many)]
        holdings = {member: {thing: self.rng.choice([0, 0, 1, 2, 3]) for thing in ("seat", "coin")
                             if self.rng.random() < 0.6} for member in members if self.rng.random() < 0.6}
        return ToldQueues(holdings, items)


def small_queues(seed, many, items=6):
    draw = DrawQueues(seed)
    found = [draw.told(draw.rng.randint(0, items)) for _ in range(many // 2)]
    return found + [draw.ringed(draw.rng.randint(1, items)) for _ in range(many - len(found))]


def ring_of(members, amount):
    """Items by which each gives the next one an amount, and the last one the first."""
    return [[(member, "coin", amount, members[(place + 1) % len(members)])] for place, member in enumerate(members)]


def row_of(members, amount):
    """Items by which each gives the next one an amount, from the last one on."""
    return [[(members[place], "coin", amount, members[place + 1])] for place in reversed(range(len(members) - 1))]
