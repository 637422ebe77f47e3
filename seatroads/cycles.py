"""Rows of people each of whom leads to the next one, and the last one to the first."""


def cycles(steps):
    """All rows that come back to their beginning, ascending, each from its least name on.

    steps is a dict from names to the one to whom each leads, who can be no key of it.
    """
    found = []
    for start in sorted(steps):
        row = [start]
        while steps[row[-1]] in steps and steps[row[-1]] not in row:
            row.append(steps[row[-1]])
        if steps[row[-1]] == start and min(row) == start:
            found.append(row)
    return found


def shortest_cycle(steps):
    """A row of as few as can be that comes back to its beginning, None if there is none.

    steps is a dict from names to lists of those to whom each leads, all of them keys of it.
    """
    found = None
    for start in steps:
        row = _shortest_way_back(steps, start)
        if row is not None and (found is None or len(row) < len(found)):
            found = row
    return found


def _shortest_way_back(steps, start):
    rows = [[start]]
    reached = set()
    while rows:
        row = rows.pop(0)
        for name in steps[row[-1]]:
            if name == start:
                return row
            if name not in reached:
                reached.add(name)
                rows.append(row + [name])
    return None
