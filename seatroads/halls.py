"""Halls: who waits and what stands free ahead of a row of events, and what the row leaves of it."""

from seatroads.checks import is_integer, is_list
from seatroads.errors import BadHall, BadRow, BadTime
from seatroads.events import is_event, name_told
from seatroads.rounds import is_person
from seatroads.standing import Standing


class End:
    """Who got which place, who waits and what stands free behind a row."""

    def __init__(self, got, waits, rooms):
        self.got = got
        self.waits = waits
        self.rooms = rooms

    def __eq__(self, other):
        if not isinstance(other, End) or self.got != other.got:
            return False
        return self.waits == other.waits and self.rooms == other.rooms


def is_hall(office, thing):
    """Whether it is a hall of the office."""
    if not is_list(thing) or len(thing) != 2 or not is_list(thing[0]) or not isinstance(thing[1], dict):
        return False
    people, free = thing
    if not all([is_person(office, person) for person in people]):
        return False
    if len(set([person[0] for person in people])) < len(people):
        return False
    if not all([kind in office and is_integer(free[kind]) and free[kind] >= 1 for kind in free]):
        return False
    return not any([kind in free for person in people for kind in person[1]])


def hall_of(run, time):
    """The hall that a run leaves behind the events up to a time."""
    free = run.free(time)
    if run.is_gathered(time):
        raise BadTime(time)
    return [person[:4] for person in run.people(time)], free


def end(office, hall, row):
    """What a row leaves of a hall."""
    check_row(office, row)
    if not is_hall(office, hall):
        raise BadHall(hall)
    people, free = hall
    comers = [name_told(event) for event in row]
    if any([person[0] in comers for person in people]):
        raise BadHall(hall)
    # All of the hall came ahead of the row.
    waiting = [tuple(person) + (place - len(people),) for place, person in enumerate(people)]
    standing = Standing(office, waiting, free)
    for number, event in enumerate(row):
        standing.hear(number, event)
    return end_of(standing)


def end_of(standing):
    """What is left where all events are heard."""
    got = {name: kind for _, name, kind in standing.letters()}
    waits = [person[0] for person in standing.people()]
    return End({name: got[name] for name in sorted(got)}, waits, standing.free())


def check_row(office, row):
    """Raise BadRow with the number of the first thing that cannot stand in a row."""
    if not is_list(row):
        raise BadRow(0)
    told = set()
    for index, event in enumerate(row):
        if not is_event(office, event) or event[0] in ("gather", "round"):
            raise BadRow(index)
        name = name_told(event)
        if name is not None and name in told:
            raise BadRow(index)
        told.add(name)
