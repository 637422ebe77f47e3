"""How people and kinds find one another where all meet at once."""


def best_for_people(wishes, ranks, free):
    """The stable matching that is best for people, a dict from names to kinds.

    wishes is a dict from names to their kinds, best first; ranks one from kinds to
    the names of those who let them, first ones first; free one from kinds to how
    many places of them there are.
    """
    held = {kind: [] for kind in ranks}
    asked = {name: 0 for name in wishes}
    asking = list(wishes)
    while asking:
        name = asking.pop()
        if asked[name] == len(wishes[name]):
            continue
        kind = wishes[name][asked[name]]
        asked[name] += 1
        held[kind].append(name)
        if len(held[kind]) > free.get(kind, 0):
            refused = _last_in_rank(ranks[kind], held[kind])
            held[kind].remove(refused)
            asking.append(refused)
    return {name: kind for kind in held for name in held[kind]}


def _last_in_rank(rank, names):
    """The one of the names that stands last in a rank that has them all."""
    return max(names, key=lambda name: rank.index(name))
