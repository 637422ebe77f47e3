"""Texts of offices, events, truths and letters, a line for each."""

from seatroads.checks import is_name, is_time
from seatroads.errors import BadText
from seatroads.events import is_event
from seatroads.offices import Office, is_rank

DIGITS = "0123456789"
# More digits than any number has that can stand in a text.
MOST_DIGITS = 7


def write_office(office):
    """The text of an office."""
    return _text([["kind", kind] + list(office.rank(kind)) for kind in office.kinds()])


def read_office(text):
    """The office of a text."""

    def read(words, told):
        if words[0] != "kind" or len(words) < 2 or not is_name(words[1]) or not is_rank(words[2:]):
            return None
        if told and words[1] <= told[-1][0]:
            return None
        return words[1], words[2:]

    return Office(dict(_read_lines(text, read)))


def write_events(events):
    """The text of a dict of events."""
    return _text([_event_words(time, events[time]) for time in sorted(events)])


def read_events(office, text):
    """The dict of the events of a text."""

    def read(words, told):
        pair = _timed_event(office, words)
        if pair is None or (told and pair[0] <= told[-1][0]):
            return None
        return pair

    return dict(_read_lines(text, read))


def write_truths(truths):
    """The text of a list of truths."""
    return _text([_truth_words(truth) for truth in truths])


def read_truths(office, text):
    """The list of the truths of a text."""

    def read(words, told):
        if words[0] == "strike" and len(words) == 2 and is_time(_number(words[1])):
            return "strike", _number(words[1])
        pair = _timed_event(office, words[1:])
        if words[0] not in ("put", "alter") or pair is None:
            return None
        return (words[0], *pair)

    return _read_lines(text, read)


def write_letters(letters):
    """The text of a list of letters."""
    return _text([[str(time), name, kind] for time, name, kind in letters])


def read_letters(text):
    """The list of the letters of a text."""

    def read(words, told):
        if len(words) != 3 or not is_time(_number(words[0])) or not is_name(words[1]) or not is_name(words[2]):
            return None
        return _number(words[0]), words[1], words[2]

    return _read_lines(text, read)


def _text(rows):
    """The text with a line of words for each row."""
    return "".join([" ".join(row) + "\n" for row in rows])


def _truth_words(truth):
    if truth[0] == "strike":
        return ["strike", str(truth[1])]
    return [truth[0]] + _event_words(truth[1], truth[2])


def _event_words(time, event):
    return [str(time), event[0]] + [_word(part) for part in event[1:]]


def _word(part):
    """How a part of an event is written."""
    if part is None:
        return "-"
    if isinstance(part, (list, tuple)):
        return "(" + " ".join(part) + ")"
    return str(part)


def _read_lines(text, read):
    """What each line of a text tells.

    read is asked of the words of a line, and of what the lines ahead tell; it tells None if
    no text goes on so.
    """
    if not isinstance(text, str):
        raise BadText(0)
    lines = text.split("\n")
    # Each line ends with a line feed, so nothing is left behind the last one.
    rest = lines.pop()
    told = []
    for index, line in enumerate(lines):
        thing = read(line.split(" "), told)
        if thing is None:
            raise BadText(index + 1)
        told.append(thing)
    if rest != "":
        raise BadText(len(lines) + 1)
    return told


def _timed_event(office, words):
    """The pair of the time and the event that words tell, None if they tell none."""
    if len(words) < 2 or not is_time(_number(words[0])):
        return None
    event = _event(words[1:])
    return (_number(words[0]), event) if is_event(office, event) else None


def _event(words):
    """What words of an event tell; it is no event if they are no such words."""
    if words[0] == "come" and len(words) > 4:
        home = None if words[-1] == "-" else words[-1]
        return ("come", words[1], _names(words[2:-2]), _number(words[-2]), home)
    if words[0] == "change" and len(words) > 2:
        return ("change", words[1], _names(words[2:]))
    return tuple(words)


def _names(words):
    """The tuple of the names that words tell as a list in brackets, None if they are no such list."""
    row = " ".join(words)
    if row == "()":
        return ()
    if row[0:1] != "(" or row[-1:] != ")":
        return None
    return tuple(row[1:-1].split(" "))


def _number(word):
    """The number that a word tells, None if it tells none."""
    if not 1 <= len(word) <= MOST_DIGITS or not all([sign in DIGITS for sign in word]):
        return None
    return int(word) if str(int(word)) == word else None
