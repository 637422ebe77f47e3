"""Tables judged: whether they keep the token, and by which lists."""

from seatroads.counting import all_counts, lessened


class Fault:
    """A book from which a table loses the token: it, the token, and the comer."""

    def __init__(self, book, token, comer):
        self.book = book
        self.token = token
        self.comer = comer


def judged(table):
    """None if a table keeps the token, else a fault with as few in its book as can be."""
    faults = [Fault(low, token, comer) for comer in table.comers() for low, token, high in _pairs(table, comer)
              if not _is_kept(table.after(low, comer), table.after(high, comer))]
    if not faults:
        return None
    return min(faults, key=lambda fault: sum(fault.book[0]) + sum(fault.book[1]))


def lists(table):
    """The dict from all comers to their list, and to what comes to rest; None if one has none."""
    found = {}
    for comer in table.comers():
        sorts = table.frees if comer[0] == "person" else table.waits
        rows = {counts: table.row(comer, counts) for counts in all_counts(len(sorts), table.depth)}
        order, rests = _order_of(rows, len(sorts))
        if rows != _rows_of(rows, order, rests):
            return None
        found[comer] = (tuple([sorts[place] for place in order]), rests)
    return found


def _pairs(table, comer):
    """The triples (low, token, high) of all books that can tell whether a comer keeps the token.

    Counts above the depth are not seen, and the side at which the comer does not look, or a
    token there, makes no difference to what they do.
    """
    found = []
    if comer[0] == "person":
        none = (0,) * len(table.waits)
        for counts in all_counts(len(table.frees), table.depth):
            found.extend([((none, counts), ("free", sort), (none, _changed(counts, place, -1)))
                          for place, sort in enumerate(table.frees) if counts[place] > 0])
    else:
        none = (0,) * len(table.frees)
        for counts in all_counts(len(table.waits), table.depth):
            found.extend([((counts, none), ("waits", sort), (_changed(counts, place, 1), none))
                          for place, sort in enumerate(table.waits) if counts[place] < table.depth])
    return found


def _changed(counts, place, step):
    """Counts of which the one at a place is so much more."""
    return (*counts[:place], counts[place] + step, *counts[place + 1:])


def _is_kept(low, high):
    """Whether one book is equal to a lower one, or higher by a token."""
    more = lessened(high[0], low[0]) + lessened(low[1], high[1])
    return [many for many in more if many != 0] in ([], [1])


def _order_of(rows, many):
    """The only order in which a comer can take one of each sort, and the rests where it takes none."""
    order = []
    # Nobody takes a sort of which none is left, so each round adds another one, or ends.
    while True:
        counts = tuple([0 if place in order else 1 for place in range(many)])
        taken, rests = rows[counts]
        if sum(taken) != 1:
            return order, rests
        order.append(taken.index(1))


def _rows_of(rows, order, rests):
    """The rows that a comer has who takes one of the first sort in an order that there is."""
    told = {}
    for counts in rows:
        there = [place for place in order if counts[place] > 0]
        taken = tuple([1 if place in there[:1] else 0 for place in range(len(counts))])
        told[counts] = (taken, (0,) * len(rests) if there else rests)
    return told
