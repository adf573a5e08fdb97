"""words.py and stairs.py: [4]."""

import copy
import unittest

from liftwater import words
from liftwater.stairs import brimful, is_stair, is_stand
from tests.things import STAIR, STAND, any_things, as_lists, with_one_otherwise

OTHER_NUMBERS = (True, False, None, "1", "", (1,), [1], ())


class WordsTest(unittest.TestCase):
    def test_low_and_high(self):
        self.assertEqual(words.LOW, "low")
        self.assertEqual(words.HIGH, "high")


class IsStairTest(unittest.TestCase):
    def test_right_ones(self):
        seven = ((0, 0, 1),) * 7
        for thing in (STAIR, ((0, 0, 1),), ((5, 5, 9),), seven, ((10 ** 25, 10 ** 30, 10 ** 40),)):
            with self.subTest(thing):
                self.assertIs(is_stair(thing), True)

    def test_a_size_above_the_most_is_right(self):
        self.assertIs(is_stair(((0, 3, 100),)), True)

    def test_wrong_numbers(self):
        for pound in ((-1, 5, 1), (6, 5, 1), (0, -1, 1), (0, 5, 0), (0, 5, -1)):
            with self.subTest(pound):
                self.assertIs(is_stair((pound,)), False)
                self.assertIs(is_stair(((0, 9, 2), pound)), False)
                self.assertIs(is_stair((pound, (0, 9, 2))), False)

    def test_one_thing_of_another_kind(self):
        for thing in with_one_otherwise(((0, 1, 1), (1, 1, 1)), OTHER_NUMBERS):
            with self.subTest(thing):
                self.assertIs(is_stair(thing), False)

    def test_lists_for_tuples(self):
        for thing in (list(STAIR), as_lists(STAIR), (list(STAIR[0]),), STAIR[:2] + (list(STAIR[2]),)):
            with self.subTest(thing):
                self.assertIs(is_stair(thing), False)

    def test_too_long_too_short_bare(self):
        for thing in ((), ((),), ((0,),), ((0, 5),), ((0, 5, 1, 1),), (STAIR,), (STAIR[0], ()), STAIR[0]):
            with self.subTest(thing):
                self.assertIs(is_stair(thing), False)

    def test_anything(self):
        right = [((1, 1, 1),), ((7, 7, 7),), ((10 ** 30,) * 3,)]
        for thing in any_things():
            with self.subTest(repr(thing)):
                ahead = copy.deepcopy(thing)
                self.assertIs(is_stair(thing), repr(thing) in [repr(one) for one in right])
                self.assertEqual(repr(thing), repr(ahead))


class IsStandTest(unittest.TestCase):
    def both(self, thing, so):
        with self.subTest(repr(thing)):
            self.assertIs(is_stand(STAIR, thing), so)
            self.assertIs(is_stand(as_lists(STAIR), thing), so)

    def test_right_ones(self):
        self.both(STAND, True)
        self.both(((2, 0, 4), ("low", "low", "low")), True)
        self.both(((10, 5, 4), ("high", "high", "high")), True)

    def test_levels_at_the_edges(self):
        chambers = STAND[1]
        for at, (least, most, size) in enumerate(STAIR):
            for level, so in ((least, True), (most, True), (least - 1, False), (most + 1, False)):
                self.both((STAND[0][:at] + (level,) + STAND[0][at + 1:], chambers), so)

    def test_one_level_of_another_kind(self):
        stair = ((0, 1, 1), (0, 1, 1))
        for levels in with_one_otherwise((1, 1), OTHER_NUMBERS):
            with self.subTest(levels):
                self.assertIs(is_stand(stair, (levels, ("low", "low"))), False)

    def test_one_chamber_that_is_neither(self):
        for at in range(3):
            for other in ("LOW", "Low", "lo", "lows", "", "fill", 0, 1, True, False, None, (), [], ("low",), ["low"]):
                self.both((STAND[0], STAND[1][:at] + (other,) + STAND[1][at + 1:]), False)

    def test_lists_for_tuples(self):
        levels, chambers = STAND
        for thing in (list(STAND), as_lists(STAND), (list(levels), chambers), (levels, list(chambers))):
            self.both(thing, False)

    def test_too_long_too_short_bare(self):
        levels, chambers = STAND
        self.both((), False)
        self.both((levels,), False)
        self.both((levels, chambers, ()), False)
        self.both((levels, chambers, chambers), False)
        self.both(((), ()), False)
        self.both((levels, ()), False)
        self.both(((), chambers), False)
        self.both((levels[:2], chambers), False)
        self.both((levels, chambers[:2]), False)
        self.both((levels[:2], chambers[:2]), False)
        self.both((levels + (0,), chambers), False)
        self.both((levels, chambers + ("low",)), False)
        self.both((chambers, levels), False)

    def test_a_text_of_as_many_signs_is_no_tuple(self):
        self.assertIs(is_stand(((0, 9, 1),), ((0,), "low")), False)
        self.assertIs(is_stand(STAIR, (STAND[0], "low")), False)

    def test_large_levels(self):
        stair = ((10 ** 29, 10 ** 30, 1),)
        self.assertIs(is_stand(stair, ((10 ** 30,), ("high",))), True)
        self.assertIs(is_stand(stair, ((10 ** 30 + 1,), ("high",))), False)

    def test_anything(self):
        for thing in any_things():
            ahead = copy.deepcopy(thing)
            self.both(thing, False)
            self.assertEqual(repr(thing), repr(ahead))


class BrimfulTest(unittest.TestCase):
    def test_all_at_their_most_all_low(self):
        self.assertEqual(brimful(STAIR), ((10, 5, 4), ("low", "low", "low")))
        self.assertEqual(brimful(((0, 0, 1),)), ((0,), ("low",)))

    def test_it_is_a_stand(self):
        for stair in (STAIR, ((0, 0, 1),), ((3, 10 ** 20, 10 ** 20),) * 6):
            self.assertIs(is_stand(stair, brimful(stair)), True)

    def test_lists_for_tuples(self):
        handed = as_lists(STAIR)
        self.assertEqual(brimful(handed), brimful(STAIR))
        self.assertEqual(handed, as_lists(STAIR))
