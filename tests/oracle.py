"""The document's words gone through naively, to hold the program against.

Nothing here uses the program. Offices are dicts of ranks, courses dicts of events.
"""

from itertools import product


class NoToken(Exception):
    """Two runs are neither even nor one higher than the other one by a token."""


def is_ahead(words, kind, one, other):
    """Whether one person is ahead of another one in the rank of a kind."""
    for word in words:
        if word == "points" and one["points"] != other["points"]:
            return one["points"] > other["points"]
        if word == "few" and one["points"] != other["points"]:
            return one["points"] < other["points"]
        if word == "home" and (one["home"] == kind) != (other["home"] == kind):
            return one["home"] == kind
        if word == "early":
            return one["time"] < other["time"]
        if word == "late":
            return one["time"] > other["time"]
    return one["time"] < other["time"]


def in_rank(ranks, kind, people):
    """Those who let the kind, each behind all who are ahead of them."""
    letting = [one for one in people if kind in one["wishes"]]
    row = [None] * len(letting)
    for one in letting:
        row[sum(is_ahead(ranks[kind], kind, other, one) for other in letting if other is not one)] = one
    return row


def likes(one, kind, other):
    """Whether a person who lets kind likes it more than other, or than None."""
    if other is None:
        return True
    return one["wishes"].index(kind) < one["wishes"].index(other)


def is_stable(ranks, people, places, given):
    """Whether no person and kind would rather; given has a kind or None for each person."""
    for one, has in zip(people, given):
        for kind in one["wishes"]:
            if has is not None and not likes(one, kind, has):
                continue
            if kind == has or kind not in places:
                continue
            holders = [other for other, held in zip(people, given) if held == kind]
            if len(holders) < places.count(kind):
                return False
            if any(is_ahead(ranks[kind], kind, one, other) for other in holders):
                return False
    return True


def stable_ones(ranks, people, places):
    """All stable matchings, each a tuple of a kind or None for each person."""
    options = [[None] + [kind for kind in one["wishes"] if kind in places] for one in people]
    found = []
    for given in product(*options):
        if all(given.count(kind) <= places.count(kind) for kind in set(places)):
            if is_stable(ranks, people, places, given):
                found.append(given)
    return found


def best_round(ranks, people, places):
    """The stable matching in which each person has the best that any gives them."""
    found = stable_ones(ranks, people, places)
    best = []
    for number, one in enumerate(people):
        kinds = {given[number] for given in found}
        assert kinds == {None} or None not in kinds
        best.append(None if kinds == {None} else min(kinds, key=list(one["wishes"]).index))
    assert tuple(best) in found
    return best


class Naive:
    """A run gone through naively: stages are triples (time, people, places)."""

    def __init__(self, ranks, events):
        self.ranks = ranks
        self.events = events
        self.people = []
        self.places = []
        self.gathered = False
        self.letters = []
        self.stages = []
        self.rounds = []
        for time in sorted(events):
            self.hear(time, events[time])
            self.stages.append((time, list(self.people), list(self.places), self.gathered))

    def hear(self, time, event):
        if event[0] == "come":
            self.arrive(time, dict(name=event[1], wishes=list(event[2]), points=event[3], home=event[4], time=time))
        if event[0] == "place":
            row = in_rank(self.ranks, event[1], self.people)
            if row and not self.gathered:
                self.give(time, row[0], event[1])
            else:
                self.places = sorted(self.places + [event[1]])
        if event[0] == "leave":
            self.people = [one for one in self.people if one["name"] != event[1]]
        if event[0] == "withdraw" and event[1] in self.places:
            self.places.remove(event[1])
        if event[0] == "change":
            for one in [one for one in self.people if one["name"] == event[1]]:
                self.people = [other for other in self.people if other is not one]
                self.arrive(time, dict(one, wishes=list(event[2]), time=time))
        if event[0] == "gather":
            self.gathered = True
        if event[0] == "round" and self.gathered:
            self.gathered = False
            self.meet(time)

    def arrive(self, time, one):
        there = [kind for kind in one["wishes"] if kind in self.places]
        self.people = self.people + [one]
        if there and not self.gathered:
            self.places.remove(there[0])
            self.give(time, one, there[0])

    def give(self, time, one, kind):
        self.people = [other for other in self.people if other is not one]
        self.letters.append((time, one["name"], kind))

    def meet(self, time):
        self.rounds.append(time)
        people = list(self.people)
        given = best_round(self.ranks, people, self.places)
        pairs = [(one["name"], one, kind) for one, kind in zip(people, given) if kind is not None]
        for _, one, kind in sorted(pairs, key=lambda pair: pair[0]):
            self.places.remove(kind)
            self.give(time, one, kind)

    def behind(self, time):
        """People and places behind the events up to a time."""
        people, places = [], []
        for stage in self.stages:
            if stage[0] <= time:
                people, places = stage[1], stage[2]
        return people, places

    def gathered_behind(self, time):
        gathered = False
        for stage in self.stages:
            if stage[0] <= time:
                gathered = stage[3]
        return gathered

    def waiting(self, time):
        return [one["name"] for one in sorted(self.behind(time)[0], key=lambda one: one["time"])]

    def free(self, time):
        places = self.behind(time)[1]
        return {kind: places.count(kind) for kind in sorted(set(places))}

    def list_of(self, kind, time):
        return [one["name"] for one in in_rank(self.ranks, kind, self.behind(time)[0])]


def naive_token(high, low, time):
    """The token of [4.2] by which one naive run is higher than another one; NoToken if there is none."""
    ups, lows = set(high.waiting(time)), set(low.waiting(time))
    rooms, more = high.free(time), low.free(time)
    if ups == lows and rooms == more:
        return None
    if rooms == more and len(ups) == len(lows) + 1 and lows < ups:
        return ("waits", min(ups - lows))
    if ups == lows:
        for kind in more:
            fewer = dict(more)
            fewer[kind] -= 1
            if {one: many for one, many in fewer.items() if many} == rooms:
                return ("free", kind)
    raise NoToken(time)


def naive_pairs(events, truth):
    """The pairs of events dicts of each road of a truth, with the one that is higher: [4.3]."""
    time = truth[1]
    without = {other: events[other] for other in events if other != time}
    if truth[0] == "put":
        return pairs_of_put(without, time, truth[2])
    pairs = [(after, before, "old" if higher == "new" else "new")
             for before, after, higher in reversed(pairs_of_put(without, time, events[time]))]
    if truth[0] == "alter":
        pairs += pairs_of_put(without, time, truth[2])
    return pairs


def pairs_of_put(events, time, event):
    there = dict(events)
    there[time] = event
    if event[0] == "change":
        left = dict(events)
        left[time] = ("leave", event[1])
        return [(events, left, "old"), (left, there, "new")]
    return [(events, there, "new" if event[0] in ("come", "withdraw") else "old")]


def heard(events, truth):
    """The events behind one truth."""
    later = dict(events)
    if truth[0] == "strike":
        del later[truth[1]]
    else:
        later[truth[1]] = truth[2]
    return later


def all_heard(events, truths):
    """The events behind truths, one after the other."""
    for truth in truths:
        events = heard(events, truth)
    return events
