"""What one more comer or place would do, and which truths explain letters."""

from itertools import combinations

from seatroads.checks import GREATEST, frozen, is_list, is_name, is_time
from seatroads.errors import BadKind, BadLetter, BadTruth, BadWishes
from seatroads.events import is_home, is_wishes
from seatroads.runs import run_of
from seatroads.tokens import token_behind


def map_of_person(course, wishes, home):
    """To what end the road of putting one more comer leads, for all times and points."""
    if not is_wishes(course.office, wishes):
        raise BadWishes(wishes)
    if not is_home(course.office, home):
        raise BadKind(home)
    known = run_of(course)
    name = _fresh_name(course)
    # Points tell only by who has more, fewer or as many, so one of a stretch stands for all.
    marks = sorted(set([event[3] for event in course.events().values() if event[0] == "come"]))
    levels = sorted(_between(marks) + [(mark, mark) for mark in marks])
    found = []
    for first, last in _between(list(course.events())):
        ends = []
        for low, high in levels:
            token = _end_of_come(known, first, (name, wishes, low, home))
            ends.append((low, high, token))
        found.extend([(first, last, low, high, token) for low, high, token in _joined(ends)])
    return found


def map_of_place(course, kind):
    """To what end the road of putting one more place leads, for all times."""
    if kind not in course.office:
        raise BadKind(kind)
    known = run_of(course)
    found = []
    for first, last in _between(list(course.events())):
        heard = run_of(course.with_truths([("put", first, ("place", kind))]))
        found.append((first, last, token_behind(known, heard, GREATEST)))
    return found


def explained(course, menu, letters):
    """All least sets of truths of a menu by which the run has just these letters."""
    _check_menu(course, menu)
    _check_letters(course.office, letters)
    wanted = sorted(frozen(letters))
    for size in range(len(menu) + 1):
        found = [chosen for chosen in combinations(range(len(menu)), size)
                 if _letters_behind(course, [menu[number] for number in chosen]) == wanted]
        if found:
            return found
    return []


def _between(marks):
    """The longest stretches from 0 to the greatest number without an ascending list of marks."""
    stretches = []
    first = 0
    for mark in marks:
        if first < mark:
            stretches.append((first, mark - 1))
        first = mark + 1
    if first <= GREATEST:
        stretches.append((first, GREATEST))
    return stretches


def _joined(ends):
    """Neighbouring stretches (low, high, token) put together where the token is the same."""
    joined = []
    for low, high, token in ends:
        start = low
        if joined and joined[-1][2] == token:
            start = joined.pop()[0]
        joined.append((start, high, token))
    return joined


def _fresh_name(course):
    """A name that no event of the course tells, not even that of somebody who never comes."""
    named = [event[1] for event in course.events().values() if event[0] in ("come", "leave", "change")]
    number = 0
    while str(number) in named:
        number += 1
    return str(number)


def _end_of_come(known, time, person):
    """The token at the end if a further person comes at a time, with no name for themselves."""
    name, wishes, points, home = person
    come = ("come", name, wishes, points, home)
    heard = run_of(known.whole.with_truths([("put", time, come)]))
    token = token_behind(heard, known, GREATEST)
    return ("waits", "") if token == ("waits", name) else token


def _check_menu(course, menu):
    if not is_list(menu):
        raise BadTruth(0)
    for index, truth in enumerate(menu):
        try:
            course.with_truths([truth])
        except BadTruth:
            raise BadTruth(index) from None


def _check_letters(office, letters):
    if not is_list(letters):
        raise BadLetter(0)
    before = set()
    for index, letter in enumerate(letters):
        if not _is_letter(office, letter) or frozen(letter) in before:
            raise BadLetter(index)
        before.add(frozen(letter))


def _is_letter(office, thing):
    if not is_list(thing) or len(thing) != 3:
        return False
    time, name, kind = thing
    return is_time(time) and is_name(name) and kind in office


def _letters_behind(course, truths):
    """The ascending list of the letters behind truths, None if they cannot go together."""
    if len(set([truth[1] for truth in truths])) < len(truths):
        return None
    try:
        heard = course.with_truths(truths)
    except BadTruth:
        return None
    return sorted(run_of(heard).letters())
