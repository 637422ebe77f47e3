"""How people and kinds find one another where all meet at once.

wishes is a dict from names to their kinds, best first; ranks one from kinds to the
names of those who let them, first ones first; free one from kinds to how many places
of them there are.
"""


def best_for_people(wishes, ranks, free):
    """The stable matching that is best for people, a dict from names to kinds."""
    given, _ = people_ask(wishes, ranks, free)
    return given


def people_ask(wishes, ranks, free):
    """Let people ask: the matching that is best for them, and the list of all refusals.

    A refusal is a triple (name, kind, others): the kind refuses somebody, and has
    others then in all of its places.
    """
    held = {kind: [] for kind in ranks}
    asked = {name: 0 for name in wishes}
    asking = list(wishes)
    refused = []
    while asking:
        name = asking.pop()
        if asked[name] == len(wishes[name]):
            continue
        kind = wishes[name][asked[name]]
        asked[name] += 1
        held[kind].append(name)
        if len(held[kind]) > free.get(kind, 0):
            last = last_in_rank(ranks[kind], held[kind])
            held[kind].remove(last)
            asking.append(last)
            refused.append((last, kind, tuple(held[kind])))
    return {name: kind for kind in held for name in held[kind]}, refused


def best_for_kinds(wishes, ranks, free):
    """The stable matching that is worst for people, a dict from names to kinds."""
    lacking = {kind: free.get(kind, 0) for kind in ranks}
    asked = {kind: 0 for kind in ranks}
    asking = list(ranks)
    given = {}
    while asking:
        kind = asking.pop()
        if lacking[kind] == 0 or asked[kind] == len(ranks[kind]):
            continue
        name = ranks[kind][asked[kind]]
        asked[kind] += 1
        asking.append(kind)
        left = given.get(name)
        if likes_more(wishes[name], kind, left):
            given[name] = kind
            lacking[kind] -= 1
            if left is not None:
                lacking[left] += 1
                asking.append(left)
    return given


def likes_more(wishes, kind, other):
    """Whether a kind stands ahead of another one in a list of wishes, or the other one is None."""
    return other is None or wishes.index(kind) < wishes.index(other)


def last_in_rank(rank, names):
    """The one of the names that stands last in a rank that has them all."""
    return max(names, key=lambda name: rank.index(name))
