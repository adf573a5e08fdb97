"""texts.py: [20]."""

import copy
import random
import unittest

from liftwater.errors import BadText
from liftwater.house import is_trip
from liftwater.stairs import is_stair
from liftwater.texts import stair_in, stair_text, trip_in, trip_text
from tests.boats import PlainHouse, parts_of_house, some_trip
from tests.plain import some_stair
from tests.things import as_lists

FAR = 10 ** 20
NINETEEN = 10 ** 19 - 1
TRIPS = (("up", "anna", 1), ("down", "b", 20), ("turn", 3), ("load", "cod", 4), ("unload", "zzzzzzzz", NINETEEN),
         ("carry", 0, 20, 6), ("carry", 20, 0, 1), ("rain", 7, 8), ("draw", 9, 10), ("up", "up", 1),
         ("load", "rain", 2))
TEXTS = ("up anna 1", "down b 20", "turn 3", "load cod 4", "unload zzzzzzzz 9999999999999999999", "carry 0 20 6",
         "carry 20 0 1", "rain 7 8", "draw 9 10", "up up 1", "load rain 2")
SIGNS = [chr(sign) for sign in range(32, 127) if sign != 37] + ["\n"]


def marred(text):
    """The text with a sign out, twice, another one in its place or put in, and two neighbours exchanged."""
    told = []
    for at in range(len(text)):
        told += [text[:at] + text[at + 1:], text[:at + 1] + text[at:]]
        told += [text[:at] + sign + text[at + 1:] for sign in SIGNS]
        told.append(text[:at] + text[at:at + 2][::-1] + text[at + 2:])
    for at in range(len(text) + 1):
        told += [text[:at] + sign + text[at:] for sign in SIGNS]
    return told


class TextsCase(unittest.TestCase):
    def right(self, read, write, text, thing):
        with self.subTest(repr(text)):
            self.assertEqual(repr(read(text)), repr(thing))
            for form in (thing, as_lists(thing), list(thing)):
                ahead = copy.deepcopy(form)
                self.assertEqual(repr(write(form)), repr(text))
                self.assertEqual(repr(form), repr(ahead))

    def wrong(self, read, text):
        with self.subTest(repr(text)):
            with self.assertRaises(BadText) as caught:
                read(text)
            self.assertIs(caught.exception.__class__, BadText)
            self.assertEqual(vars(caught.exception), {"what": text})

    def one_or_other(self, read, write, text, is_one):
        """A text is read as a thing whose text it is, or refused: never as another's."""
        try:
            thing = read(text)
        except BadText as refusal:
            self.assertEqual(refusal.what, text)
            return False
        self.assertIs(is_one(thing), True)
        self.assertEqual(write(thing), text)
        return True


class StairTextTest(TextsCase):
    def test_right_ones(self):
        self.right(stair_in, stair_text, "0/5/1", ((0, 5, 1),))
        self.right(stair_in, stair_text, "0/0/1", ((0, 0, 1),))
        self.right(stair_in, stair_text, "1/10/4 2/8/3", ((1, 10, 4), (2, 8, 3)))
        self.right(stair_in, stair_text, "7/7/9999999999999999999", ((7, 7, NINETEEN),))
        self.right(stair_in, stair_text, "1/10/4 2/8/3 3/6/2 0/1/1 4/4/4 5/10/15",
                   ((1, 10, 4), (2, 8, 3), (3, 6, 2), (0, 1, 1), (4, 4, 4), (5, 10, 15)))

    def test_nineteen_and_twenty_figures(self):
        self.right(stair_in, stair_text, f"{NINETEEN}/{NINETEEN}/{NINETEEN}", ((NINETEEN,) * 3,))
        for pound in ((0, NINETEEN + 1, 1), (0, 5, NINETEEN + 1), (NINETEEN + 1,) * 3, (0, FAR, 1)):
            self.assertEqual(stair_text((pound,)), "/".join(map(str, pound)))
            self.wrong(stair_in, stair_text((pound,)))

    def test_numbers_not_plain(self):
        for number in ("00", "05", "+5", "-5", "-0", "5.0", "5e0", "0x5", "1_0", "", " ", "a", "\u0665", "\u00b2",
                       "5\n"):
            self.wrong(stair_in, f"{number}/9/1")
            self.wrong(stair_in, f"0/{number}/1")
            self.wrong(stair_in, f"0/9/{number}")

    def test_blanks_and_line_feeds(self):
        for text in ("", " ", "  ", "\n", " 0/5/1", "0/5/1 ", "0/5/1  0/5/1", "0/5/1\n", "\n0/5/1", "0/5/1\n0/5/1",
                     "0/5/1\t0/5/1", "0 /5/1", "0/ 5/1", "0/5/1 \n", "0/5/1 0/5/1\n0/5/1"):
            self.wrong(stair_in, text)

    def test_parts_too_few_and_too_many(self):
        for text in ("0", "0/5", "0/5/1/1", "0/5/", "/5/1", "0//1", "//", "/", "0/5/1 0/5", "0/5/1/0/5/1", "0/5 1",
                     "0/5/1/", "/0/5/1", "0/5/1 5", "0,5,1", "0/5/1,0/5/1", "(0/5/1)"):
            self.wrong(stair_in, text)

    def test_no_pounds(self):
        for text in ("6/5/1", "0/5/0", "1/0/1", "0/5/1 6/5/1", "0/5/1 0/5/0", f"{NINETEEN}/{NINETEEN - 1}/1"):
            self.wrong(stair_in, text)

    def test_texts_of_other_things(self):
        for text in TEXTS + ("stair 0/5/1", "up", "turn 1 0/5/1"):
            self.wrong(stair_in, text)

    def test_very_long_texts(self):
        self.wrong(stair_in, "0/5/1 " * 66)
        self.wrong(stair_in, "9" * 400)
        self.wrong(stair_in, " " * 400)
        self.wrong(stair_in, "/" * 400)
        self.wrong(stair_in, "\n" * 400)

    def test_longer_numbers_are_written(self):
        self.assertEqual(stair_text([[0, FAR * FAR, FAR]]), f"0/{FAR * FAR}/{FAR}")

    def test_many(self):
        chance = random.Random(201)
        for turn in range(200):
            stair = some_stair(chance, wide=chance.choice([0, 6, 10 ** 18]))
            self.right(stair_in, stair_text, " ".join(f"{a}/{b}/{c}" for a, b, c in stair), stair)

    def test_marred_ones(self):
        seen = {True: 0, False: 0}
        for stair in (((0, 5, 1),), ((1, 10, 4), (2, 8, 3)), ((0, 0, 1), (10, 10, 20))):
            for text in marred(stair_text(stair)):
                seen[self.one_or_other(stair_in, stair_text, text, is_stair)] += 1
        self.assertGreater(min(seen.values()), 100, seen)


class TripTextTest(TextsCase):
    def test_right_ones(self):
        for trip, text in zip(TRIPS, TEXTS):
            self.right(trip_in, trip_text, text, trip)

    def test_locks_quays_and_pounds(self):
        for place, so in ((0, False), (1, True), (20, True), (21, False)):
            for text in (f"up a {place}", f"down a {place}", f"turn {place}", f"rain {place} 1", f"draw {place} 1"):
                if so:
                    self.assertEqual(trip_text(trip_in(text)), text)
                else:
                    self.wrong(trip_in, text)
        for quay, so in ((0, True), (1, True), (20, True), (21, False), (5, False)):
            for text in (f"carry {quay} 5 1", f"carry 5 {quay} 1"):
                if so:
                    self.assertEqual(trip_text(trip_in(text)), text)
                else:
                    self.wrong(trip_in, text)

    def test_many_nought(self):
        for text in ("load a 0", "unload a 0", "carry 0 1 0", "rain 1 0", "draw 1 0"):
            self.wrong(trip_in, text)

    def test_names(self):
        for name in ("a", "abcdefgh", "up", "turn", "told", "undo"):
            self.right(trip_in, trip_text, f"up {name} 1", ("up", name, 1))
        for name in ("", "abcdefghi", "A", "Anna", "annA", "a1", "1", "a-b", "a.", "a\n", "'a'", "\u00e4"):
            for word in ("up", "down", "load", "unload"):
                self.wrong(trip_in, f"{word} {name} 1")

    def test_words(self):
        for word in ("", "Up", "UP", "ups", "u", "fill", "empty", "raise", "lower", "tours", "told", "undo", "1"):
            for rest in ("a 1", "1", "1 1", "0 1 1"):
                self.wrong(trip_in, f"{word} {rest}")

    def test_parts_too_few_and_too_many(self):
        for text in TEXTS:
            self.wrong(trip_in, text.rsplit(" ", 1)[0])
            self.wrong(trip_in, text.split(" ", 1)[1])
            for more in ("1", "a", "up", ";"):
                self.wrong(trip_in, f"{text} {more}")

    def test_numbers_not_plain(self):
        for number in ("00", "01", "+1", "-1", "1.0", "1e0", "1_0", "", "one", "\u0661", "\u00b9"):
            for text in (f"up a {number}", f"turn {number}", f"load a {number}", f"carry {number} 2 3",
                         f"carry 2 {number} 3", f"carry 2 3 {number}", f"rain {number} 1", f"rain 1 {number}"):
                self.wrong(trip_in, text)

    def test_nineteen_and_twenty_figures(self):
        self.right(trip_in, trip_text, f"rain 1 {NINETEEN}", ("rain", 1, NINETEEN))
        for many in (NINETEEN + 1, FAR, 10 ** 40):
            self.assertEqual(trip_text(("rain", 1, many)), f"rain 1 {many}")
            self.wrong(trip_in, f"rain 1 {many}")
            self.wrong(trip_in, f"load a {many}")
        self.wrong(trip_in, "turn 00000000000000000001")

    def test_blanks_and_line_feeds(self):
        for text in TEXTS:
            for other in (" " + text, text + " ", text.replace(" ", "  ", 1), text + "\n", "\n" + text,
                          text.replace(" ", "\n", 1), text.replace(" ", "\t"), text.replace(" ", "")):
                self.wrong(trip_in, other)
        for text in ("", " ", "\n", " " * 400, "\n" * 400, "a" * 400, "1" * 400):
            self.wrong(trip_in, text)

    def test_many(self):
        chance = random.Random(202)
        for turn in range(300):
            trip = some_trip(chance, PlainHouse(*parts_of_house(chance)))
            self.right(trip_in, trip_text, " ".join(map(str, trip)), trip)

    def test_marred_ones(self):
        seen = {True: 0, False: 0}
        for trip in TRIPS:
            for text in marred(trip_text(trip)):
                seen[self.one_or_other(trip_in, trip_text, text, is_trip)] += 1
        self.assertGreater(min(seen.values()), 100, seen)
