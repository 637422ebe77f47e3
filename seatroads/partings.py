"""The least halls behind which two rows of events come to unlike ends.

Who gets no place by either row, and a place that nobody takes, can be left out of a hall.
So each of the people of a least hall, the GUESTS here, gets a place that comes in one of
the rows, or in both. Guests are told by pairs: the number of the event of one row that
gives them a place, None for none, and that of the other row.

Whatever guests a hall has, a row's own people fare as if the places that go to guests
never came. So it is supposed of each place which guest gets it, or that none does, and
then asked whether guests can stand in the ranks in such a way.
"""

from itertools import combinations

from seatroads.checks import GREATEST, is_integer
from seatroads.halls import end_of
from seatroads.ranking import is_ahead, letting, people_in_rank
from seatroads.standing import Standing


def least_hall(office, one, other, is_looked_for):
    """A hall with as few people and free places together as can be, None if there is none.

    is_looked_for is asked of both rows' ends without the guests, and of the list of the
    pairs of kinds that the guests get by the rows, None for no place.
    """
    for free, going, back, guests in _suppositions(office, one, other):
        kinds = [(_kind_at(one, first), _kind_at(other, second)) for first, second in guests]
        if is_looked_for(going[0], back[0], kinds):
            wishes = [tuple(sorted(set([kind for kind in pair if kind is not None]))) for pair in kinds]
            orders = _orders(going[1], wishes, [guest[0] for guest in guests])
            orders.extend(_orders(back[1], wishes, [guest[1] for guest in guests]))
            people = _guests(office, wishes, orders, list(one) + list(other))
            if people is not None:
                return people, free
    return None


def _suppositions(office, one, other):
    """All that can be supposed of free places and of guests, fewer of them first.

    They are tuples (free, going, back, guests): going and back as _goings tells them.
    """
    found = []
    for free in _frees(office, one, other):
        for going in _goings(office, one, free):
            for back in _goings(office, other, free):
                found.extend([(free, going, back, guests) for guests in _pairings(going[2], back[2])])
    return sorted(found, key=lambda row: sum(list(row[0].values())) + len(row[3]))


def _frees(office, one, other):
    """All numbers of free places of which each could be taken by one of the rows."""
    frees = [{}]
    for kind in office.kinds():
        most = max(_most_taken(one, kind), _most_taken(other, kind))
        frees = [_with(free, kind, many) for free in frees for many in range(most + 1)]
    return frees


def _most_taken(row, kind):
    """How many places of a kind a row can take at most."""
    withdrawn = [event for event in row if event[0] == "withdraw" and event[1] == kind]
    asked = [event for event in row if event[0] in ("come", "change") and kind in event[2]]
    return len(withdrawn) + len(asked)


def _with(free, kind, many):
    return {**free, kind: many} if many > 0 else free


def _goings(office, row, free):
    """How a row can go for its own people, by which of its places guests get.

    These are triples (end, stops, given): what is left of its own people and of the free
    places; a triple (kind, first, number) for each place of the row: the first one of its
    own people who wait then and let the kind, None for nobody, and the number of the
    event; and the list of the numbers of the places that guests get.
    """
    # Nobody of the hall lets a kind of which it has a free place.
    places = [number for number, event in enumerate(row) if event[0] == "place" and event[1] not in free]
    found = []
    for many in range(len(places) + 1):
        for given in combinations(places, many):
            found.append(_going(office, row, free, list(given)))
    return found


def _going(office, row, free, given):
    standing = Standing(office, (), free)
    stops = []
    for number, event in enumerate(row):
        if event[0] == "place":
            there = people_in_rank(office, event[1], letting(event[1], standing.people()))
            stops.append((event[1], there[0] if there else None, number))
        if number not in given:
            standing.hear(number, event)
    return end_of(standing), stops, given


def _pairings(some, others):
    """All ways in which the guests who get some places of one row can be those who get others of the other row."""
    if not some:
        return [[(None, number) for number in others]]
    found = []
    for number in [None] + others:
        left = [one for one in others if one != number]
        found.extend([[(some[0], number)] + rest for rest in _pairings(some[1:], left)])
    return found


def _kind_at(row, number):
    return None if number is None else row[number][1]


def _orders(stops, wishes, got):
    """Who must stand ahead of whom in which rank, if guests get places at just these stops.

    Triples (kind, ahead, behind): guests are told by their numbers, others as people, and
    None for nobody, who can stand ahead of no one.
    """
    orders = []
    for kind, first, number in stops:
        letting_it = [guest for guest in range(len(wishes)) if kind in wishes[guest]]
        there = [guest for guest in letting_it if got[guest] is None or got[guest] >= number]
        winner = first
        if number in got:
            winner = got.index(number)
            if first is not None:
                orders.append((kind, winner, first))
        orders.extend([(kind, winner, guest) for guest in there if guest != winner])
    return orders


def _guests(office, wishes, orders, events):
    """A list of people with such wishes who keep the orders, None if there are none."""
    for kind, ahead, behind in orders:
        if ahead is None or (kind, behind, ahead) in orders:
            return None
    # By points and home alone a guest stands as they must among the rows' own people, or does not.
    looks = [[look for look in _looks(office, wishes, events)
              if _keeps(office, orders, {}, guest, (None, wishes[guest], *look, -1))] for guest in range(len(wishes))]
    seated = _seated(office, wishes, orders, looks, {}) if all([len(row) > 0 for row in looks]) else None
    if seated is None:
        return None
    names = _fresh_names(events, len(wishes))
    return [(names[place], seated[guest][1], seated[guest][2], seated[guest][3])
            for place, guest in enumerate(seated)]


def _seated(office, wishes, orders, looks, seated):
    """The guests as people, in the order in which they came, behind those who are seated; None if they cannot be.

    looks are the pairs of points and a home that each guest can have.
    """
    if len(seated) == len(wishes):
        return seated
    # Each guest came ahead of all the row.
    time = len(seated) - len(wishes)
    for guest in range(len(wishes)):
        if guest not in seated:
            for points, home in looks[guest]:
                person = (None, wishes[guest], points, home, time)
                if _keeps(office, orders, seated, guest, person):
                    found = _seated(office, wishes, orders, looks, {**seated, guest: person})
                    if found is not None:
                        return found
    return None


def _keeps(office, orders, seated, guest, person):
    """Whether a guest who is this person keeps the orders among those who are seated, and the row's own people."""
    for kind, ahead, behind in orders:
        if guest in (ahead, behind):
            one = person if ahead == guest else _person(seated, ahead)
            other = person if behind == guest else _person(seated, behind)
            if one is not None and other is not None and not is_ahead(office, kind, one, other):
                return False
    return True


def _person(seated, who):
    """The person who is told as in orders, None for a guest who is not seated."""
    return seated.get(who) if is_integer(who) else who


def _looks(office, wishes, events):
    """All pairs of points and a home that guests need to try."""
    kinds = [kind for kind in office.kinds() if any([kind in row for row in wishes])]
    words = [word for kind in kinds for word in office.rank(kind)]
    homes = [None] + [kind for kind in kinds if "home" in office.rank(kind)]
    if "points" in words or "few" in words:
        return [(points, home) for points in _levels(events, len(wishes)) for home in homes]
    return [(0, home) for home in homes]


def _levels(events, many):
    """Points by which so many guests can stand among the row's own people, and one another, in all ways."""
    marks = [event[3] for event in events if event[0] == "come"] or [0]
    near = sorted(set([mark + step for mark in marks for step in range(-many, many + 1)]))
    return [points for points in near if 0 <= points <= GREATEST]


def _fresh_names(events, many):
    """So many names that no event of the rows tells."""
    told = [event[1] for event in events if event[0] in ("come", "leave", "change")]
    names = [str(number) for number in range(many + len(told))]
    return [name for name in names if name not in told][:many]
