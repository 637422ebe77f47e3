"""Places that are given back by those who have them."""

from seatroads.checks import is_list, is_name
from seatroads.errors import BadEvent
from seatroads.events import is_event, name_told
from seatroads.standing import Standing


def back_run(office, events):
    """Who waits, what stands free, and who has which place, behind events and places given back."""
    _check_events(office, events)
    standing = Standing(office)
    has = {}
    for number, event in enumerate(events):
        if event[0] != "back":
            standing.hear(number, event)
        elif event[1] in has:
            standing.hear(number, ("place", has.pop(event[1])))
        else:
            standing.hear(number, ("leave", event[1]))
        has.update({name: kind for time, name, kind in standing.letters() if time == number})
    waits = [person[0] for person in standing.people()]
    return waits, standing.free(), {name: has[name] for name in sorted(has)}


def parted_back(office):
    """Events, and the number of a come among them without which the run is no token apart."""
    kind = office.kinds()[0]
    events = [("place", kind)] + [("come", name, (kind,), 0, None) for name in ("a", "b", "c")]
    # Where a has the place, b waits, and goes behind c; where a never came, b has it, and c waits.
    if not _is_late_first(office.rank(kind)):
        events.append(("change", "b", (kind,)))
    return events + [("back", "a")], 1


def _is_late_first(words):
    """Whether of two people who came at unlike times alone the later one is ahead."""
    return [word for word in words if word in ("early", "late")][:1] == ["late"]


def _check_events(office, events):
    if not is_list(events):
        raise BadEvent(0)
    told = set()
    for index, event in enumerate(events):
        if not _is_event(office, event):
            raise BadEvent(index)
        name = name_told(event)
        if name is not None and name in told:
            raise BadEvent(index)
        told.add(name)


def _is_event(office, thing):
    """Whether it is an event of the office, no gather and no round, or a place that is given back."""
    if is_list(thing) and len(thing) == 2 and thing[0] == "back":
        return is_name(thing[1])
    return is_event(office, thing) and thing[0] not in ("gather", "round")
