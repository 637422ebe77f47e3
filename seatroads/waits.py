"""Why items of queues wait, while some of them are set aside."""


class Waits:
    """What the items of queues give and get; at first no item is set aside."""

    def __init__(self, queues):
        # Both by pairs (member, thing).
        self._income = {}
        self._needs = {}
        # By numbers of items.
        self._takes = {}
        self._aside = {}
        holdings = queues.holdings()
        for member in holdings:
            for thing in holdings[member]:
                self._income[member, thing] = holdings[member][thing]
        given = {}
        for number, item in enumerate(queues.all_items()):
            self._takes[number] = [((taker, thing), many) for _, thing, many, taker in item]
            for giver, thing, many, taker in item:
                given[giver, thing] = given.get((giver, thing), 0) + many
                self._needs.setdefault((giver, thing), {})[number] = given[giver, thing]
                self._income[taker, thing] = self._income.get((taker, thing), 0) + many

    def set_aside(self, number):
        """Set one item aside: nobody gets anything by it."""
        self._aside[number] = True
        for key, many in self._takes[number]:
            self._income[key] -= many

    def is_aside(self, number):
        """Whether an item is set aside."""
        return number in self._aside

    def is_behind(self, number, other):
        """Whether the other item is set aside, and stands ahead of this one in some queue."""
        if other not in self._aside or other >= number:
            return False
        return any([other in line and number in line for line in self._needs.values()])

    def is_short(self, number, member, thing):
        """Whether the item stands in a queue whose member lacks for what it gives up to and with it."""
        line = self._needs.get((member, thing), {})
        return number in line and self._income.get((member, thing), 0) < line[number]

    def why(self, number):
        """Why an item waits, by what is set aside; None if nothing there makes it wait."""
        for other in self._aside:
            if self.is_behind(number, other):
                return ("behind", other)
        for member, thing in self._needs:
            if self.is_short(number, member, thing):
                return ("short", member, thing)
        return None

    def lacks(self, thing):
        """What members lack of the thing for all items not set aside, by members, without noughts.

        None if one of these items waits for another reason.
        """
        lacking = {}
        for key in self._needs:
            line = self._needs[key]
            left = [number for number in line if number not in self._aside]
            if left != list(line)[:len(left)]:
                return None
            lack = line[left[-1]] - self._income.get(key, 0) if left else 0
            if lack > 0 and key[1] != thing:
                return None
            if lack > 0:
                lacking[key[0]] = lack
        return {member: lacking[member] for member in sorted(lacking)}
