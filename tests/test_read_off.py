"""[4.4]: each step of a road read off the one run that is known."""

import unittest

from oracle import Naive, in_rank, is_ahead, naive_pairs
from samples import ALL_RANKS, SMALL, TWO, Draw, can_be_heard, rows, timed
from seatroads.courses import Course
from seatroads.offices import Office
from seatroads.roads import roads


class Reader:
    """Reads the next token off a run that is known as the higher or the lower one."""

    def __init__(self, ranks, known, is_higher, other_events):
        self.ranks = ranks
        self.known = known
        self.is_higher = is_higher
        self.other_events = other_events

    def person(self, name, time):
        """What the events ahead of a time tell of a token that waits."""
        events = self.known.events if self.is_higher else self.other_events
        told = None
        for at in sorted(events):
            if at < time and events[at][:2] == ("come", name):
                _, _, wishes, points, home = events[at]
                told = dict(name=name, wishes=wishes, points=points, home=home, time=at)
            if at < time and events[at][:2] == ("change", name) and told:
                told = dict(told, wishes=events[at][2], time=at)
        return told

    def next(self, token, time, event):
        if token is None:
            return None
        people, places = self.known.behind(time - 1)
        gathered = self.known.gathered_behind(time - 1)
        if token[0] == "waits":
            if event[0] == "leave" and event[1] == token[1]:
                return None
            if event[0] == "change" and event[1] == token[1]:
                there = [kind for kind in event[2] if kind in places and not gathered]
                return ("free", there[0]) if there else token
            if event[0] == "place" and not gathered:
                return self.waits_at_place(token, time, event[1], people)
            return token
        if event[0] == "withdraw" and event[1] == token[1]:
            left = places.count(token[1]) - (0 if self.is_higher else 1)
            return None if left == 0 else token
        if event[0] == "come" and not gathered:
            return self.free_at_comer(token, time, event[1], event[2], places)
        if event[0] == "change" and not gathered and event[1] in [one["name"] for one in people]:
            return self.free_at_comer(token, time, event[1], event[2], places)
        return token

    def waits_at_place(self, token, time, kind, people):
        gets = [letter[1] for letter in self.known.letters if letter[0] == time]
        if self.is_higher:
            if gets != [token[1]]:
                return token
            row = [one for one in in_rank(self.ranks, kind, people) if one["name"] != token[1]]
            return ("waits", row[0]["name"]) if row else ("free", kind)
        one = self.person(token[1], time)
        if kind not in one["wishes"]:
            return token
        if not gets:
            return ("free", kind)
        other = [other for other in people if other["name"] == gets[0]][0]
        return ("waits", gets[0]) if is_ahead(self.ranks[kind], kind, one, other) else token

    def free_at_comer(self, token, time, name, wishes, places):
        takes = [letter[2] for letter in self.known.letters if letter[0] == time]
        kind = token[1]
        if self.is_higher:
            if kind not in wishes or (takes and list(wishes).index(takes[0]) <= list(wishes).index(kind)):
                return token
            return ("free", takes[0]) if takes else ("waits", name)
        if takes != [kind] or places.count(kind) > 1:
            return token
        others = [other for other in wishes if other in places and other != kind]
        return ("free", others[0]) if others else ("waits", name)


class ReadOffTest(unittest.TestCase):

    def check(self, ranks, events, truth):
        made = roads(Course(Office(ranks), events), [truth])
        for road, (before, after, higher) in zip(made, naive_pairs(events, truth)):
            for known_events, other, is_higher in [(before, after, higher == "old"), (after, before, higher == "new")]:
                self.follow(road, Reader(ranks, Naive(ranks, known_events), is_higher, other), truth[1])

    def follow(self, road, reader, start):
        token = road.at(start)
        events = reader.known.events
        for time in sorted(events):
            if time <= start:
                continue
            if time in reader.known.rounds:
                token = road.at(time)
            token = reader.next(token, time, events[time])
            self.assertEqual(road.at(time), token, (events, reader.is_higher, time))

    def test_small_courses_gone_through_whole(self):
        putting = [("come", "w", ("b", "a"), 1, "b"), ("place", "a"), ("leave", "x"), ("withdraw", "b"),
                   ("change", "y", ("b",))]
        for row in rows(SMALL, 3):
            events = timed(row)
            for event in putting:
                self.check(TWO, events, ("put", 0, event))

    def test_small_courses_with_places_and_people_ahead(self):
        ahead = (("place", "a"), ("come", "u", ("b",), 2, None), ("place", "a"), ("place", "b"),
                 ("come", "v", ("b",), 1, "b"))
        for row in rows(SMALL, 3):
            events = timed(ahead + row)
            for time in (1, 3, 5, 7, 9):
                self.check(TWO, events, ("strike", time))

    def test_drawn_courses(self):
        draw = Draw(21)
        for number in range(2500):
            ranks = ALL_RANKS[number % 4]
            events = draw.events(ranks, draw.rng.randint(3, 14))
            truth = draw.truth(ranks, events)
            self.assertTrue(can_be_heard(events, truth))
            self.check(ranks, events, truth)


if __name__ == "__main__":
    unittest.main()
