"""Rows, books and deeds that the tests share, and sums of their own."""

from samples import Draw


def added(parts):
    """The dict from pairs (account, thing) to the sums of rows, without noughts, ascending."""
    sums = {}
    for rows in parts:
        for account, thing, amount in rows:
            sums.setdefault((account, thing), []).append(amount)
    return {key: sum(sums[key]) for key in sorted(sums) if sum(sums[key])}


def as_rows(sums):
    return [(account, thing, amount) for (account, thing), amount in sums.items()]


def naive_books(naive, fees):
    """The books of a naive run, told by going through its events one by one: [6.6]."""
    deposit, table = fees
    books = []
    held = {}
    for time in sorted(naive.events):
        parts = []
        there = naive.waiting(time)
        event = naive.events[time]
        letters = [(name, kind) for when, name, kind in naive.letters if when == time]
        if event[0] == "change" and event[1] in held:
            del held[event[1]]
            parts.append([(event[1], "coin", deposit), ("the-pool", "coin", -deposit)])
        for name in list(held):
            if name not in there:
                del held[name]
                parts.append([(name, "coin", deposit), ("the-pool", "coin", -deposit)])
        for name in there:
            if name not in held:
                held[name] = True
                parts.append([(name, "coin", -deposit), ("the-pool", "coin", deposit)])
        for name, kind in letters:
            parts.append([(name, "coin", -table.get(kind, 0)), ("the-till", "coin", table.get(kind, 0)),
                          (name, "seat", 1), ("the-till", "seat", -1)])
        if added(parts):
            books.append((time, as_rows(added(parts))))
    return books


class DrawLedgers(Draw):
    """Rows, books and deeds drawn by a fixed seed."""

    def rows(self, many):
        """Rows that balance, in any order, some of them twice or of 0."""
        rows = []
        for _ in range(self.rng.randint(0, many)):
            thing = self.rng.choice(["coin", "seat"])
            amount = self.rng.choice([0, 1, 2, -1, -2, 3, 10 ** 17])
            rows.append((self.account(), thing, amount))
            rows.append((self.account(), thing, -amount))
        self.rng.shuffle(rows)
        return rows

    def account(self):
        return self.rng.choice(["ann", "bob", "cleo", "the-till", "the-pool"])

    def books(self):
        found = []
        for valid in sorted(self.rng.sample(range(10), self.rng.randint(0, 6))):
            rows = as_rows(added([self.rows(2)]))
            if rows:
                found.append((valid, rows))
        return found

    def deeds(self, many):
        """Deeds that go together, several of them at one known time, some behind a closing."""
        found = []
        known, closed = 0, -1
        for _ in range(many):
            known += self.rng.choice([0, 0, 1, 2])
            if closed < 8 and self.rng.random() < 0.2:
                closed = self.rng.randint(closed + 1, 9)
                found.append(("close", known, closed))
            else:
                found.append(("entry", known, self.rng.randint(0, 10), self.rows(3)))
        return found
