"""Queues: what members hold, and the items in which they give it to one another."""

from seatroads.checks import frozen, is_integer, is_list, is_name
from seatroads.errors import BadHoldings, BadItem, BadName, BadNumber


class Queues:
    """What members hold of things, and items of legs that are given all at once or not at all."""

    def __init__(self, holdings, items):
        _check_holdings(holdings)
        _check_items(items)
        self._holdings = _told_holdings(holdings)
        self._items = list(frozen(items))

    def holdings(self):
        """The ascending dict of what members hold, ascending dicts too, without noughts."""
        return {member: dict(self._holdings[member]) for member in self._holdings}

    def all_items(self):
        """The list of the items, tuples of tuples."""
        return list(self._items)

    def members(self):
        """The ascending list of all members that hold, give or take something."""
        sides = [side for giver, _, _, taker in self._legs() for side in (giver, taker)]
        return sorted(set(list(self._holdings) + sides))

    def things(self):
        """The ascending list of all things that are held or given."""
        held = [thing for member in self._holdings for thing in self._holdings[member]]
        return sorted(set(held + [leg[1] for leg in self._legs()]))

    def queue(self, member, thing):
        """The numbers of the items by which a member gives a thing, ascending."""
        return [number for number, item in enumerate(self._items)
                if any([leg[0] == member and leg[1] == thing for leg in item])]

    def more(self, items):
        """The queues with further items behind."""
        if not is_list(items):
            raise BadItem(len(self._items))
        return Queues(self._holdings, self._items + list(items))

    def first(self, many):
        """The queues with the first items alone."""
        if not is_integer(many) or not 0 <= many <= len(self._items):
            raise BadNumber(many)
        return Queues(self._holdings, self._items[:many])

    def given(self, member, thing, many):
        """The queues in which a member holds so many more of a thing."""
        for name in (member, thing):
            if not is_name(name):
                raise BadName(name)
        if not is_integer(many) or many < 0:
            raise BadNumber(many)
        holdings = self.holdings()
        held = holdings.setdefault(member, {})
        held[thing] = held.get(thing, 0) + many
        return Queues(holdings, self._items)

    def __len__(self):
        return len(self._items)

    def __eq__(self, other):
        return isinstance(other, Queues) and self._holdings == other._holdings and self._items == other._items

    def _legs(self):
        """The list of all legs of all items."""
        return [leg for item in self._items for leg in item]


def _check_holdings(holdings):
    if not isinstance(holdings, dict):
        raise BadHoldings(holdings)
    for member in holdings:
        if not is_name(member) or not _is_held(holdings[member]):
            raise BadHoldings(member)


def _is_held(thing):
    """Whether it is a dict from things to how many of them are held."""
    if not isinstance(thing, dict):
        return False
    return all([is_name(key) and is_integer(thing[key]) and thing[key] >= 0 for key in thing])


def _check_items(items):
    if not is_list(items):
        raise BadItem(0)
    for index, item in enumerate(items):
        if not is_list(item) or not all([_is_leg(leg) for leg in item]):
            raise BadItem(index)


def _is_leg(thing):
    if not is_list(thing) or len(thing) != 4:
        return False
    giver, given, many, taker = thing
    if not is_name(giver) or not is_name(given) or not is_name(taker) or giver == taker:
        return False
    return is_integer(many) and many >= 1


def _told_holdings(holdings):
    """Holdings told ascending, without noughts and members that hold nothing."""
    told = {}
    for member in sorted(holdings):
        held = holdings[member]
        left = {thing: held[thing] for thing in sorted(held) if held[thing] > 0}
        if left:
            told[member] = left
    return told
