"""The office: its kinds of places, and the rank of each."""

from seatroads.checks import is_list, is_name
from seatroads.errors import BadKind, BadRank

WORDS = ("points", "few", "home", "early", "late")


class Office:
    """An office that gives places of several kinds."""

    def __init__(self, ranks):
        if not isinstance(ranks, dict):
            raise BadRank(ranks)
        for kind in ranks:
            if not is_name(kind) or not is_rank(ranks[kind]):
                raise BadRank(kind)
        self._ranks = {kind: tuple(ranks[kind]) for kind in sorted(ranks)}

    def kinds(self):
        """The ascending list of the kinds."""
        return list(self._ranks)

    def rank(self, kind):
        """The tuple of the words by which a kind ranks people."""
        if kind not in self:
            raise BadKind(kind)
        return self._ranks[kind]

    def __eq__(self, other):
        return isinstance(other, Office) and self._ranks == other._ranks

    def __len__(self):
        return len(self._ranks)

    def __contains__(self, thing):
        # Lists and the like cannot even be looked up among the keys of a dict.
        return isinstance(thing, str) and thing in self._ranks


def is_rank(thing):
    """Whether it is a list of unlike words of ranks."""
    if not is_list(thing) or not all([word in WORDS for word in thing]):
        return False
    return len(set(thing)) == len(thing)
