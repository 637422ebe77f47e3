"""Tables: ways of giving places told whole, and what they do to books."""

from seatroads.checks import frozen, is_integer, is_list, is_name
from seatroads.counting import added, how_many_counts, is_counts, is_counts_of, lessened
from seatroads.errors import BadBook, BadComer, BadCounts, BadPeople, BadRule, BadTable
from seatroads.rounds import is_person
from seatroads.ways import RULES, are_told_apart, comers_of


class Table:
    """For each comer, whatever there is of each sort, what is taken and what comes to rest."""

    def __init__(self, waits, frees, depth, comers):
        if not _is_sorts(waits):
            raise BadTable("waits")
        if not _is_sorts(frees):
            raise BadTable("frees")
        if not is_integer(depth) or not 1 <= depth <= 3:
            raise BadTable("depth")
        if not _is_comers(comers, len(waits), len(frees), depth):
            raise BadTable("comers")
        self.waits = tuple(waits)
        self.frees = tuple(frees)
        self.depth = depth
        self._rows = {comer: {counts: frozen(comers[comer][counts]) for counts in comers[comer]}
                      for comer in sorted(comers)}

    def comers(self):
        """The ascending list of the comers."""
        return list(self._rows)

    def row(self, comer, counts):
        """What a comer takes, and what comes to rest, where there is so much of each sort."""
        self._check_comer(comer)
        looked = self.frees if comer[0] == "person" else self.waits
        if not is_counts_of(counts, len(looked), self.depth):
            raise BadCounts(counts)
        return self._rows[frozen(comer)][frozen(counts)]

    def after(self, book, comer):
        """The book behind a comer."""
        self._check_book(book)
        self._check_comer(comer)
        waits, frees = book
        if comer[0] == "person":
            taken, rests = self.row(comer, self._seen(frees))
            return added(waits, rests), lessened(frees, taken)
        taken, rests = self.row(comer, self._seen(waits))
        return lessened(waits, taken), added(frees, rests)

    def after_all(self, book, comers):
        """The book behind a list of comers."""
        self._check_book(book)
        if not is_list(comers):
            raise BadComer(comers)
        behind = frozen(book)
        for comer in comers:
            behind = self.after(behind, comer)
        return behind

    def __eq__(self, other):
        if not isinstance(other, Table) or self.waits != other.waits or self.frees != other.frees:
            return False
        return self.depth == other.depth and self._rows == other._rows

    def _check_book(self, book):
        if not _is_book(book) or len(book[0]) != len(self.waits) or len(book[1]) != len(self.frees):
            raise BadBook(book)

    def _check_comer(self, comer):
        if frozen(comer) not in self.comers():
            raise BadComer(comer)

    def _seen(self, counts):
        """Counts as rows tell them: those above the depth are told as it."""
        return [min(count, self.depth) for count in counts]


def apart(one, other):
    """The sum of all differences of two books."""
    if not _is_book(one):
        raise BadBook(one)
    if not _is_book(other) or len(other[0]) != len(one[0]) or len(other[1]) != len(one[1]):
        raise BadBook(other)
    return sum([abs(many) for side in range(2) for many in lessened(one[side], other[side])])


def office_table(office, people):
    """The table of an office, with a sort and a comer for each of some people."""
    _check_people(office, people)
    return Table(sorted(people), office.kinds(), 1, comers_of(office, people, 1, "plain"))


def other_table(office, people, rule):
    """The table of an office in which one thing is otherwise."""
    _check_people(office, people)
    if rule not in RULES:
        raise BadRule(rule)
    return Table(sorted(people), office.kinds(), 2, comers_of(office, people, 2, rule))


def _is_sorts(thing):
    """Whether it is a list of unlike names."""
    return is_list(thing) and all([is_name(sort) for sort in thing]) and len(set(thing)) == len(thing)


def _is_comers(thing, waits, frees, depth):
    """Whether it is a dict from comers to their rows, where there are so many sorts of both sides."""
    if not isinstance(thing, dict):
        return False
    for comer in thing:
        if not isinstance(comer, tuple) or len(comer) != 2 or not is_name(comer[1]):
            return False
        if comer[0] == "person":
            is_right = _is_rows(thing[comer], frees, waits, depth)
        else:
            is_right = comer[0] == "place" and _is_rows(thing[comer], waits, frees, depth)
        if not is_right:
            return False
    return True


def _is_rows(thing, looked, others, depth):
    """Whether it is a dict from all counts of so many sorts to what is taken and comes to rest."""
    if not isinstance(thing, dict) or len(thing) != how_many_counts(looked, depth):
        return False
    for counts in thing:
        if not is_counts_of(counts, looked, depth) or not _is_row(thing[counts], counts, others):
            return False
    return True


def _is_row(thing, counts, others):
    """Whether it is a pair of what is taken of counts, and of what comes to rest of so many others."""
    if not is_list(thing) or len(thing) != 2 or not is_counts(thing[0]) or not is_counts(thing[1]):
        return False
    taken, rests = thing
    if len(taken) != len(counts) or len(rests) != others:
        return False
    return all([took <= count for took, count in zip(taken, counts)])


def _is_book(thing):
    """Whether it is a pair of lists of integers from 0 on."""
    return is_list(thing) and len(thing) == 2 and is_counts(thing[0]) and is_counts(thing[1])


def _check_people(office, people):
    if not isinstance(people, dict):
        raise BadPeople(people)
    for name in people:
        if not is_list(people[name]) or not is_person(office, (name, *people[name])):
            raise BadPeople(name)
    ahead = []
    for name in people:
        if not all([are_told_apart(office, people[other], people[name]) for other in ahead]):
            raise BadPeople(name)
        ahead.append(name)
