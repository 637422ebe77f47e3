"""Ranks: who is ahead of whom for a kind.

People are told here as tuples (name, wishes, points, home, time).
"""


def names_in_rank(office, kind, people):
    """The names of those of the people who let the kind, the first in its rank first."""
    words = office.rank(kind)
    letting = [person for person in people if kind in person[1]]
    return [person[0] for person in sorted(letting, key=lambda person: _place_in_rank(words, kind, person))]


def _place_in_rank(words, kind, person):
    """What tells people apart in the rank: the least one is first."""
    _, _, points, home, time = person
    by_word = {
        "points": -points,
        "few": points,
        "home": 0 if home == kind else 1,
        "early": time,
        "late": -time,
    }
    return [by_word[word] for word in words] + [time]
