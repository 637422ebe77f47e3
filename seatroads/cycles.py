"""Rows of people each of whom leads to the next one, and the last one to the first."""


def cycles(steps):
    """All rows that come back to their beginning, ascending, each from its least name on.

    steps is a dict from names to the one to whom each leads, who can be no key of it.
    """
    found = []
    for start in sorted(steps):
        row = [start]
        while steps[row[-1]] in steps and steps[row[-1]] not in row:
            row.append(steps[row[-1]])
        if steps[row[-1]] == start and min(row) == start:
            found.append(row)
    return found
