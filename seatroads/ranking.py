"""Ranks: who is ahead of whom for a kind.

People are told here as tuples (name, wishes, points, home, time).
"""


def names_in_rank(office, kind, people):
    """The names of those of the people who let the kind, the first in its rank first."""
    return [person[0] for person in people_in_rank(office, kind, letting(kind, people))]


def people_in_rank(office, kind, people):
    """All of the people, whether they let the kind or not, the first in its rank first."""
    words = office.rank(kind)
    return sorted(people, key=lambda person: place_in_rank(words, kind, person))


def letting(kind, people):
    """The list of those of the people who let the kind."""
    return [person for person in people if kind in person[1]]


def is_ahead(office, kind, one, other):
    """Whether one person stands ahead of another one in the rank of a kind."""
    words = office.rank(kind)
    return place_in_rank(words, kind, one) < place_in_rank(words, kind, other)


def place_in_rank(words, kind, person):
    """What tells people apart in the rank: the least one is first."""
    _, _, points, home, time = person
    by_word = {
        "points": -points,
        "few": points,
        "home": 0 if home == kind else 1,
        "early": time,
        "late": -time,
    }
    return [by_word[word] for word in words] + [time]
