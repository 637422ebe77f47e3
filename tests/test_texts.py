"""[13.1], [13.2]: texts of offices, events, truths and letters."""

import random
import re
import unittest

from samples import ALL_RANKS, MIXED, TWO, Draw, odd_objects
from seatroads.courses import Course
from seatroads.errors import BadText
from seatroads.offices import Office
from seatroads.runs import run_of
from seatroads.texts import (read_events, read_letters, read_office, read_truths, write_events, write_letters,
                             write_office, write_truths)

OFFICE = Office(TWO)
EVENTS = {0: ("come", "ann", ("b", "a"), 7, None), 3: ("come", "bob", (), 0, "b"), 10: ("place", "a"), 20: ("leave", "ann"),
          21: ("withdraw", "b"), 30: ("change", "ann", ("a",)), 31: ("change", "x9", ()), 40: ("gather",),
          10 ** 6: ("round",)}
TEXT = """0 come ann (b a) 7 -
3 come bob () 0 b
10 place a
20 leave ann
21 withdraw b
30 change ann (a)
31 change x9 ()
40 gather
1000000 round
"""
TRUTHS = [("put", 5, ("place", "a")), ("strike", 5), ("alter", 0, ("come", "z", ("a", "b"), 1000000, "a")), ("strike", 5)]
TRUTHS_TEXT = "put 5 place a\nstrike 5\nalter 0 come z (a b) 1000000 a\nstrike 5\n"
LETTERS = [(9, "ann", "a"), (3, "bob", "zz"), (9, "ann", "a")]
LETTERS_TEXT = "9 ann a\n3 bob zz\n9 ann a\n"

NAME = "[a-z0-9]{1,8}"
NUMBER = "(?:0|[1-9][0-9]*)"


def is_number(word):
    return re.fullmatch(NUMBER, word) and int(word) <= 10 ** 6


class Forms:
    """The forms of lines by regular expressions, one office's kinds in them."""

    def __init__(self, ranks):
        self.kind = "(?:" + "|".join(sorted(ranks) or ["[^ -~]"]) + ")"
        self.wishes = r"\(((?:%s(?: %s)*)?)\)" % (self.kind, self.kind)

    def office(self, lines):
        names = []
        for line in lines:
            if not re.fullmatch("kind %s(?: (?:points|few|home|early|late))*" % NAME, line):
                return False
            words = line.split()
            names.append(words[1])
            if len(set(words[2:])) < len(words[2:]):
                return False
        return names == sorted(set(names))

    def is_event(self, line):
        """Whether it is the line of an event; also without its time."""
        for form in ("come %s %s (%s) (?:%s|-)" % (NAME, self.wishes, NUMBER, self.kind), "(?:place|withdraw) " + self.kind,
                     "leave " + NAME, "change %s %s" % (NAME, self.wishes), "gather", "round"):
            found = re.fullmatch("(%s) %s" % (NUMBER, form), line)
            if found:
                wishes = (found.groups() + ("",))[1] if "(" in line else ""
                numbers = [found.group(1)] + ([found.group(3)] if form.startswith("come") else [])
                return all(is_number(one) for one in numbers) and len(set(wishes.split())) == len(wishes.split())
        return False

    def events(self, lines):
        if not all(self.is_event(line) for line in lines):
            return False
        times = [int(line.split()[0]) for line in lines]
        return times == sorted(set(times))

    def truths(self, lines):
        for line in lines:
            word, _, rest = line.partition(" ")
            if not (word == "strike" and is_number(rest)) and not (word in ("put", "alter") and self.is_event(rest)):
                return False
        return True

    def letters(self, lines):
        return all(re.fullmatch("%s %s %s" % (NUMBER, NAME, NAME), line) and is_number(line.split()[0]) for line in lines)


def wanted_line(is_text, text):
    """The line of BadText by trying each beginning of the text, taken whole; None for a text that is one."""
    lines = text.split("\n")
    for number in range(len(lines)):
        if not is_text(lines[:number]):
            return number
    return None if lines[-1] == "" else len(lines)


class WrittenTest(unittest.TestCase):

    def test_offices(self):
        office = Office({"b": (), "a": ["points", "late"], "9": ["home"]})
        self.assertEqual(write_office(office=office), "kind 9 home\nkind a points late\nkind b\n")
        self.assertEqual(read_office(text="kind 9 home\nkind a points late\nkind b\n"), office)
        self.assertEqual(write_office(Office({})), "")
        self.assertEqual(read_office(""), Office({}))

    def test_events(self):
        self.assertEqual(write_events(events=dict(reversed(list(EVENTS.items())))), TEXT)
        found = read_events(office=OFFICE, text=TEXT)
        self.assertEqual(list(found.items()), list(EVENTS.items()))
        self.assertTrue(all(isinstance(event, tuple) for event in found.values()))
        self.assertEqual(write_events({1: ["come", "x", ["a"], 1, None]}), "1 come x (a) 1 -\n")
        self.assertEqual((write_events({}), read_events(OFFICE, "")), ("", {}))

    def test_a_name_told_again_is_read(self):
        text = "1 come x () 0 -\n2 come x () 0 -\n"
        self.assertEqual(read_events(OFFICE, text), {1: ("come", "x", (), 0, None), 2: ("come", "x", (), 0, None)})

    def test_truths(self):
        self.assertEqual(write_truths(truths=TRUTHS), TRUTHS_TEXT)
        self.assertEqual(write_truths((["put", 5, ["place", "a"]],)), "put 5 place a\n")
        self.assertEqual(read_truths(office=OFFICE, text=TRUTHS_TEXT), TRUTHS)
        self.assertEqual((write_truths([]), read_truths(OFFICE, "")), ("", []))

    def test_letters(self):
        self.assertEqual(write_letters(letters=LETTERS), LETTERS_TEXT)
        self.assertEqual(write_letters([[9, "ann", "a"]]), "9 ann a\n")
        self.assertEqual(read_letters(text=LETTERS_TEXT), LETTERS)
        self.assertEqual((write_letters([]), read_letters("")), ("", []))

    def test_written_and_read_back_is_the_same(self):
        draw = Draw(240)
        for number in range(120):
            ranks = ALL_RANKS[number % len(ALL_RANKS)]
            office, events = Office(ranks), draw.events(ranks, 14)
            truths = draw.truths(ranks, events, 6, moving=True)
            letters = run_of(Course(office, events)).letters()
            self.assertEqual(read_office(write_office(office)), office)
            self.assertEqual(list(read_events(office, write_events(events)).items()), list(events.items()))
            self.assertEqual(read_truths(office, write_truths(truths)), truths)
            self.assertEqual(read_letters(write_letters(letters)), letters)
            texts = [(write_office(office), lambda text: write_office(read_office(text))),
                     (write_events(events), lambda text: write_events(read_events(office, text))),
                     (write_truths(truths), lambda text: write_truths(read_truths(office, text))),
                     (write_letters(letters), lambda text: write_letters(read_letters(text)))]
            for text, again in texts:
                self.assertEqual(again(text), text)
        for ranks in [{}, {"a": ()}, MIXED, {"k" + str(number): ["late"] for number in range(6)}]:
            self.assertEqual(read_office(write_office(Office(ranks))), Office(ranks))

    def test_what_is_passed_stays(self):
        events, truths, letters = {1: ["change", "x", ["a"]]}, [["put", 1, ["change", "x", ["a"]]]], [[1, "x", "a"]]
        write_events(events)
        write_truths(truths)
        write_letters(letters)
        self.assertEqual((events, truths, letters), ({1: ["change", "x", ["a"]]}, [["put", 1, ["change", "x", ["a"]]]],
                                                     [[1, "x", "a"]]))
        read_events(OFFICE, TEXT).clear()
        self.assertEqual(len(read_events(OFFICE, TEXT)), len(EVENTS))


class BadTextTest(unittest.TestCase):

    def readers(self):
        forms = Forms(TWO)
        return {
            "office": (read_office, forms.office),
            "events": (lambda text: read_events(OFFICE, text), forms.events),
            "truths": (lambda text: read_truths(OFFICE, text), forms.truths),
            "letters": (read_letters, forms.letters),
        }

    def check(self, name, text, line):
        read, is_text = self.readers()[name]
        self.assertEqual(wanted_line(is_text, text), line, repr(text))
        if line is None:
            read(text)
            return
        with self.assertRaises(BadText) as caught:
            read(text)
        self.assertEqual(caught.exception.line, line, repr(text))

    def test_no_strings(self):
        for thing in [one for one in odd_objects() if not isinstance(one, str)] + [b"kind a\n", ["kind a\n"]]:
            for name in self.readers():
                with self.assertRaises(BadText) as caught:
                    self.readers()[name][0](thing)
                self.assertEqual(caught.exception.line, 0)

    def test_no_line_feed_at_the_end(self):
        for name, text in [("office", "kind a\nkind b late\n"), ("events", TEXT), ("truths", TRUTHS_TEXT),
                           ("letters", LETTERS_TEXT)]:
            self.check(name, text, None)
            self.check(name, text[:-1], text.count("\n"))
            self.check(name, text + " ", text.count("\n") + 1)
            self.check(name, text + "\n", text.count("\n") + 1)
            self.check(name, "\n" + text, 1)
            self.check(name, " ", 1)
            self.check(name, "\n", 1)
            self.check(name, "x\n" + text[:-1], 1)

    def test_offices(self):
        for line in ["kind", "kind ", "kind A", "kind a ", " kind a", "kind  a", "kind a late late", "kind a Late", "kind a\tlate",
                     "kind a late ", "kinda", "Kind a", "kind ninesigns", "a late", "kind a b", "kind a -"]:
            self.check("office", "kind 0 late\n" + line + "\nkind", 2)
        self.check("office", "kind b\nkind b\n", 2)
        self.check("office", "kind b\nkind c\nkind a\n", 3)

    def test_events(self):
        for line in [
                "5", "5 ", "5 come", "5 come x", "5 come x ()", "5 come x () 0", "5 come x () 0 c", "5 come x (c) 0 a",
                "5 come x (a a) 0 a", "5 come x ( a) 0 a", "5 come x (a ) 0 a", "5 come x (a  b) 0 a", "5 come x ( ) 0 a",
                "5 come x a 0 a", "5 come x (a 0 a", "5 come x a) 0 a", "5 come x ((a)) 0 a", "5 come x (a,b) 0 a",
                "5 come x () 00 a", "5 come x () -1 a", "5 come x () +1 a", "5 come x () 1000001 a", "5 come x () 0 None",
                "5 come x () - -", "5 come X () 0 -", "5 come x () 0 - ", "5 come x () 0 -\t", "5 come  x () 0 -",
                "5  come x () 0 -", "05 place a", "-5 place a", "+5 place a", "5.0 place a", "1000001 place a",
                "99999999999999999999 place a", "place a", "5 place", "5 place c", "5 place a b", "5 place -", "5 place (a)",
                "5 change", "5 leave", "5 leave X", "5 leave x y", "5 withdraw", "5 withdraw x", "5 change x", "5 change x a",
                "5 change x (a) 0", "5 change (a)", "5 change x (x)", "5 change x (", "5 change x )", "5 gather a", "5 round ",
                "5 gathers", "five place a", "5 come x () ", "5 come () 0 -", "5 come x (a) (b) 0 -", "_5 place a", "5_0 place a"]:
            self.check("events", "4 round\n" + line + "\nx", 2)
        for line in ["5 come x () 0 -", "5 come 0 () 0 -", "5 come come (b a) 1000000 b", "5 leave leave", "1000000 place a"]:
            self.check("events", "4 round\n" + line + "\n", None)
        self.check("events", "4 round\n4 round\n", 2)
        self.check("events", "4 round\n5 round\n3 round\n", 3)

    def test_truths(self):
        for line in ["put", "put 5", "put 5 place", "put 5 place c", "alter 5", "strike", "strike 5 place a", "strike 05",
                     "strike x", "strike 1000001", "strike 5 ", " strike 5", "strike  5", "Put 5 place a", "5 place a",
                     "put 05 place a", "put  5 place a", "put place a", "alter 5 come x (a) 0", "put 5 place a ", "strike -",
                     "put strike 5", "strike"]:
            self.check("truths", "strike 9\n" + line + "\nstrike", 2)
        self.check("truths", "strike 9\nstrike 9\nput 3 place a\nalter 1 gather\n", None)

    def test_letters(self):
        for line in ["5", "5 x", "5 x a b", "05 x a", "5 X a", "5 x A", "5  x a", " 5 x a", "5 x a ", "x x a", "5 x -",
                     "1000001 x a", "5 ninesigns a", "5 x\ta", "-5 x a", "5 (x) a"]:
            self.check("letters", "9 ann a\n" + line + "\n", 2)
        self.check("letters", "9 ann a\n9 ann a\n0 0 0\n1000000 aaaaaaaa 99999999\n", None)

    def test_texts_with_one_sign_or_line_otherwise(self):
        rng, bad = random.Random(241), {}
        draw = Draw(242)
        for number in range(160):
            events = draw.events(TWO, 6)
            texts = {"office": write_office(Office({"a": ["points", "late"], "b": [], "c": ["home"]})),
                     "events": write_events(events), "truths": write_truths(draw.truths(TWO, events, 5)),
                     "letters": write_letters(run_of(Course(OFFICE, draw.events(TWO, 12))).letters() or LETTERS)}
            for name, text in texts.items():
                for _ in range(6):
                    bent = self.bent(rng, text)
                    read, is_text = self.readers()[name]
                    line = wanted_line(is_text, bent)
                    self.check(name, bent, line)
                    bad[name, line is None] = bad.get((name, line is None), 0) + 1
        self.assertEqual(len(bad), 8)
        self.assertGreater(min(bad.values()), 30)

    def bent(self, rng, text):
        at = rng.randrange(len(text))
        lines = text.splitlines(keepends=True)
        row = rng.randrange(len(lines))
        signs = " \n()-0159abxz\t"
        return rng.choice([
            text[:at] + rng.choice(signs) + text[at + 1:], text[:at] + text[at + 1:], text[:at] + rng.choice(signs) + text[at:],
            text[:at], "".join(lines[:row] + lines[row + 1:]), "".join(lines[:row + 1] + lines[row:]),
            "".join(rng.sample(lines, len(lines))), text])


if __name__ == "__main__":
    unittest.main()
