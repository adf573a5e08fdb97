"""totals.py: [7]."""

import copy
import random
import unittest

from liftwater.totals import levels_of, totals_of


class TotalsTest(unittest.TestCase):
    def pair(self, levels, totals):
        for form in (tuple, list):
            for ask, handed, answer in ((totals_of, levels, totals), (levels_of, totals, levels)):
                with self.subTest(f"{ask.__name__} {form(handed)!r}"):
                    given = form(handed)
                    ahead = copy.deepcopy(given)
                    self.assertEqual(repr(ask(given)), repr(answer))
                    self.assertEqual(repr(given), repr(ahead))

    def test_one_pound(self):
        for level in (0, 1, 7, -7, 10 ** 20, -10 ** 20):
            self.pair((level,), (level,))

    def test_several(self):
        self.pair((3, 4), (7, 4))
        self.pair((1, 2, 4), (7, 6, 4))
        self.pair((0, 0, 0), (0, 0, 0))

    def test_six(self):
        self.pair((1, 10, 100, 1000, 10000, 100000), (111111, 111110, 111100, 111000, 110000, 100000))

    def test_below_nought(self):
        self.pair((-1, 2, -4), (-3, -2, -4))
        self.pair((5, -5), (0, -5))
        self.pair((-10 ** 20, -10 ** 20), (-2 * 10 ** 20, -10 ** 20))

    def test_each_is_the_others_way_back(self):
        chance = random.Random(7)
        for turn in range(300):
            numbers = tuple(chance.randint(-10 ** 20, 10 ** 20) for at in range(chance.randint(1, 6)))
            self.assertEqual(levels_of(totals_of(numbers)), numbers)
            self.assertEqual(totals_of(levels_of(numbers)), numbers)
            self.assertEqual(totals_of(numbers), tuple(sum(numbers[at:]) for at in range(len(numbers))))
