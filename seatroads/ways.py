"""The ways in which an office serves who comes, told for each that can be there."""

from seatroads.counting import all_counts
from seatroads.ranking import names_in_rank, place_in_rank

RULES = ("pairs", "proud", "all", "crowd", "small", "plain")


def comers_of(office, people, depth, rule):
    """The comers of a table: people by their names, and places by their kinds, with their rows.

    people is a dict from names to triples (wishes, points, home).
    """
    names = sorted(people)
    kinds = office.kinds()
    comers = {}
    for name in names:
        rows = {counts: _taken_by(people[name][0], dict(zip(kinds, counts)), rule)
                for counts in all_counts(len(kinds), depth)}
        comers["person", name] = {counts: _told(rows[counts], kinds, names, name) for counts in rows}
    persons = [(name, *people[name], 0) for name in names]
    for kind in kinds:
        rank = names_in_rank(office, kind, persons)
        rows = {counts: _given_to(rank, dict(zip(names, counts)), rule) for counts in all_counts(len(names), depth)}
        comers["place", kind] = {counts: _told(rows[counts], names, kinds, kind) for counts in rows}
    return comers


def are_told_apart(office, one, other):
    """Whether the ranks of all kinds that two people both let tell them apart whenever they came."""
    for kind in office.kinds():
        if kind in one[0] and kind in other[0]:
            words = _words_ahead_of_times(office.rank(kind))
            if place_in_rank(words, kind, ("", *one, 0)) == place_in_rank(words, kind, ("", *other, 0)):
                return False
    return True


def _taken_by(wishes, free, rule):
    """The kinds that a person takes of what is free, and how many come to wait."""
    there = [kind for kind in wishes for _ in range(free[kind])]
    if rule == "pairs":
        return (there[:2], 0) if len(there) >= 2 else ([], 2)
    if rule == "all" and not all([kind in there for kind in wishes]):
        return [], 1
    if there:
        return there[:1], 0
    if rule == "proud" and any([many > 0 for many in free.values()]):
        return [], 0
    return [], 1


def _given_to(rank, waiting, rule):
    """The names of those, one or none, who get a place, and how many places come to stand free."""
    there = [name for name in rank if waiting[name] > 0]
    if not there:
        return [], 1
    # Of as many the one whom max and min find first is the first in the rank.
    if rule == "crowd":
        return [max(there, key=lambda name: waiting[name])], 0
    if rule == "small":
        return [min(there, key=lambda name: waiting[name])], 0
    return there[:1], 0


def _told(row, sorts, others, own):
    """A row as tables have it, of what is taken of some sorts, and how many of an own sort come to rest."""
    taken, resting = row
    return (tuple([taken.count(sort) for sort in sorts]), tuple([resting if sort == own else 0 for sort in others]))


def _words_ahead_of_times(words):
    """The words of a rank that stand ahead of all that look at times."""
    found = []
    for word in words:
        if word in ("early", "late"):
            return found
        found.append(word)
    return found
