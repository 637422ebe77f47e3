"""Events: what an office hears at a time."""

from seatroads.checks import is_list, is_name, is_points


def is_event(office, thing):
    """Whether it is an event of the office."""
    if not is_list(thing) or len(thing) == 0:
        return False
    word = thing[0]
    if not isinstance(word, str) or word not in FORMS:
        return False
    has_form = FORMS[word]
    return has_form(office, list(thing[1:]))


def is_wishes(office, thing):
    """Whether it is a list of unlike kinds of the office."""
    if not is_list(thing) or not all([kind in office for kind in thing]):
        return False
    return len(set(thing)) == len(thing)


def is_home(office, thing):
    """Whether it is a kind of the office, or None."""
    return thing is None or thing in office


def name_told(event):
    """The name that a come tells, None for all other events."""
    if event[0] == "come":
        return event[1]
    return None


def _is_come(office, rest):
    if len(rest) != 4:
        return False
    name, wishes, points, home = rest
    return is_name(name) and is_wishes(office, wishes) and is_points(points) and is_home(office, home)


def _is_of_kind(office, rest):
    return len(rest) == 1 and rest[0] in office


def _is_of_person(office, rest):
    return len(rest) == 1 and is_name(rest[0])


def _is_change(office, rest):
    return len(rest) == 2 and is_name(rest[0]) and is_wishes(office, rest[1])


def _is_alone(office, rest):
    return len(rest) == 0


FORMS = {
    "come": _is_come,
    "place": _is_of_kind,
    "leave": _is_of_person,
    "withdraw": _is_of_kind,
    "change": _is_change,
    "gather": _is_alone,
    "round": _is_alone,
}
