"""alikes.py: [14]."""

import copy
import random
import unittest

from liftwater.alikes import alike, no_less, parted_at
from tests.plain import low_levels, plain_deeds, plain_totals, some_round, some_stair
from tests.things import as_lists

FAR = 10 ** 20
TWO = ((1, 10, 4), (2, 8, 3))
ONE = ((0, 5, 2),)


def some_deeds(chance, stair, most=6, weight=5):
    """Any deeds, no round mostly."""
    deeds = []
    for step in range(chance.randint(0, most)):
        word = chance.choice(["fill", "empty", "raise", "lower"])
        pound = chance.randint(1, len(stair))
        deeds.append((word, pound) if word in ("fill", "empty") else (word, pound, chance.randint(1, weight)))
    return deeds


def shuffled_a_bit(chance, stair, deeds):
    """Deeds that often end alike: a raise split, two neighbours exchanged, a deed left out or twice."""
    deeds = list(deeds)
    if not deeds:
        return deeds
    at = chance.randrange(len(deeds))
    way = chance.randrange(4)
    if way == 0 and len(deeds[at]) == 3 and deeds[at][2] > 1:
        word, pound, many = deeds[at]
        part = chance.randint(1, many - 1)
        deeds[at:at + 1] = [(word, pound, part), (word, pound, many - part)]
    elif way == 1 and at > 0:
        deeds[at - 1], deeds[at] = deeds[at], deeds[at - 1]
    elif way == 2:
        del deeds[at]
    elif way == 3:
        deeds.insert(at, deeds[at])
    return deeds


def near_levels(stair, deep):
    """All levels from the most down to so far below 0, of a stair of one or two pounds."""
    levels = [()]
    for least, most, size in stair:
        levels = [ahead + (level,) for ahead in levels for level in range(-deep, most + 1)]
    return levels


class AlikesTest(unittest.TestCase):
    def ask(self, stair, one, other):
        """(alike, no_less, parted_at), the same for each form of what is handed in, which stays."""
        answers = []
        for handed in ((stair, one, other), (as_lists(stair), as_lists(one), as_lists(other)),
                       (stair, tuple(one), tuple(as_lists(other)))):
            ahead = copy.deepcopy(handed)
            answers.append(repr((alike(*handed), no_less(*handed), parted_at(*handed))))
            self.assertEqual(repr(handed), repr(ahead))
        self.assertEqual(len(set(answers)), 1, answers)
        return alike(stair, one, other), no_less(stair, one, other), parted_at(stair, one, other)

    def check(self, stair, one, other, so, no_less_so):
        with self.subTest(f"{stair} {one} {other}"):
            told_alike, told_no_less, levels = self.ask(stair, one, other)
            self.assertIs(told_alike, so)
            self.assertIs(told_no_less, no_less_so)
            if so:
                self.assertIs(levels, None)
            else:
                self.check_parted(stair, one, other, levels)

    def check_parted(self, stair, one, other, levels):
        self.assertIsInstance(levels, tuple)
        self.assertEqual(len(levels), len(stair))
        for level, (least, most, size) in zip(levels, stair):
            self.assertIs(level.__class__, int)
            self.assertLessEqual(level, most)
        self.assertNotEqual(plain_deeds(stair, levels, one)[0], plain_deeds(stair, levels, other)[0])

    def both(self, stair, one, other):
        self.check(stair, one, other, True, True)
        self.check(stair, other, one, True, True)

    def parted(self, stair, one, other, no_less_so, other_no_less):
        self.check(stair, one, other, False, no_less_so)
        self.check(stair, other, one, False, other_no_less)

    def test_no_deeds_beside_none(self):
        for stair in (ONE, TWO, TWO * 3):
            self.both(stair, [], [])

    def test_raises_split_joined_in_another_order(self):
        self.both(TWO, [("raise", 2, 5)], [("raise", 2, 2), ("raise", 2, 3)])
        self.both(TWO, [("raise", 2, 5)], [("raise", 2, 1)] * 5)
        self.both(TWO, [("raise", 2, 3), ("raise", 1, 4)], [("raise", 1, 4), ("raise", 2, 3)])
        self.both(TWO, [("raise", 2, 3), ("raise", 1, 4)], [("raise", 1, 1), ("raise", 2, 3), ("raise", 1, 3)])
        self.both(TWO, [("raise", 2, FAR)], [("raise", 2, FAR - 1), ("raise", 2, 1)])
        self.parted(TWO, [("raise", 2, 5)], [("raise", 2, 4)], True, False)
        self.parted(TWO, [("raise", 2, FAR)], [("raise", 2, FAR - 1)], True, False)

    def test_lowerings_split(self):
        self.both(TWO, [("lower", 2, 5)], [("lower", 2, 2), ("lower", 2, 3)])
        self.both(TWO, [("lower", 2, 5), ("lower", 1, 2)], [("lower", 1, 2), ("lower", 2, 5)])
        self.parted(TWO, [("lower", 2, 5)], [("lower", 2, 4)], False, True)

    def test_a_raise_ahead_of_a_lowering_and_behind_it(self):
        # Raised first it may run over: so it's less than raised behind.
        self.parted(ONE, [("raise", 1, 3), ("lower", 1, 3)], [("lower", 1, 3), ("raise", 1, 3)], False, True)
        self.both(ONE, [("lower", 1, 3), ("raise", 1, 3)], [])
        self.parted(ONE, [("raise", 1, 3), ("lower", 1, 3)], [], False, True)
        self.parted(TWO, [("raise", 2, 3), ("lower", 1, 3)], [("lower", 1, 3), ("raise", 2, 3)], False, True)
        # What is raised below lowers nothing above.
        self.both(TWO, [("raise", 1, 3), ("lower", 2, 3)], [("lower", 2, 3), ("raise", 1, 3)])

    def test_a_fill_is_a_lowering_and_an_emptying_raises_the_pound_below(self):
        self.both(TWO, [("fill", 2)], [("lower", 2, 3)])
        self.both(TWO, [("empty", 2)], [("raise", 1, 3)])
        self.both(TWO, [("empty", 1)], [])
        self.both(TWO, [("fill", 1), ("empty", 1)], [("lower", 1, 4)])
        self.both(TWO, [("fill", 2), ("empty", 2)], [("lower", 2, 3), ("raise", 1, 3)])
        self.parted(TWO, [("fill", 2)], [("fill", 1)], False, False)

    def test_neither_is_no_less(self):
        self.parted(TWO, [("raise", 2, 1), ("lower", 1, 2)], [], False, False)
        self.parted(TWO, [("lower", 2, 1), ("raise", 1, 2)], [], False, False)

    def test_a_level_less_that_no_total_is(self):
        # Water that runs over out of pound 2 into pound 1: no total less, and yet levels otherwise.
        self.parted(TWO, [("lower", 2, 1), ("raise", 1, 1)], [], False, True)
        self.parted(TWO, [("raise", 2, 1)], [("raise", 1, 1)], True, False)

    def test_unlike_only_far_below_nought(self):
        # From levels near the brim pound 2 is full behind both, and pound 1, too.
        for more in (100, 10 ** 9, FAR - 1):
            self.parted(TWO, [("raise", 2, more + 1)], [("raise", 2, more)], True, False)
            for levels in near_levels(TWO, 10):
                self.assertEqual(plain_deeds(TWO, levels, [("raise", 2, more + 1)])[0],
                                 plain_deeds(TWO, levels, [("raise", 2, more)])[0])
            self.parted(TWO, [("raise", 1, more + 1)], [("raise", 1, more)], True, False)
            self.parted(TWO, [("raise", 2, more), ("raise", 1, 1)], [("raise", 2, more)], True, False)

    def test_unlike_only_at_the_brim(self):
        self.parted(TWO, [("raise", 2, 1), ("lower", 2, 1)], [], False, True)
        self.assertEqual(plain_deeds(TWO, (3, 7), [("raise", 2, 1), ("lower", 2, 1)])[0], (3, 7))

    def test_narrow_pounds(self):
        # Pound 2 has no room at all: what's raised there is raised below.
        stair = ((0, 9, 1), (4, 4, 1))
        self.parted(stair, [("raise", 2, 2)], [("raise", 1, 2)], True, False)
        self.both(stair, [("lower", 2, 2), ("raise", 2, 2)], [])
        self.parted(((0, 0, 1),), [("lower", 1, 2)], [("raise", 1, 1), ("lower", 1, 2)], False, True)

    def test_a_course_of_the_same_deeds_is_no_less_than_itself(self):
        chance = random.Random(141)
        for turn in range(100):
            stair = some_stair(chance)
            deeds = some_deeds(chance, stair, 12)
            self.both(stair, deeds, list(deeds))

    def test_all_levels_of_small_stairs(self):
        chance = random.Random(142)
        seen = {}
        for turn in range(250):
            stair = some_stair(chance, chance.choice([1, 2]), 3)
            one = some_deeds(chance, stair, 4, 3)
            other = shuffled_a_bit(chance, stair, one) if turn % 3 else some_deeds(chance, stair, 4, 3)
            ends = [(plain_deeds(stair, levels, one)[0], plain_deeds(stair, levels, other)[0])
                    for levels in near_levels(stair, 16)]
            so = all(first == second for first, second in ends)
            no_less_so = all(mine >= yours for first, second in ends
                             for mine, yours in zip(plain_totals(first), plain_totals(second)))
            self.check(stair, one, other, so, no_less_so)
            seen[so, no_less_so] = seen.get((so, no_less_so), 0) + 1
        self.assertGreater(min(seen.values()), 20, seen)
        self.assertEqual(len(seen), 3)

    def test_many_levels_of_greater_stairs(self):
        chance = random.Random(143)
        seen = {True: 0, False: 0}
        for turn in range(300):
            stair = some_stair(chance, wide=chance.choice([0, 3, 6]))
            one = some_deeds(chance, stair, 8)
            other = shuffled_a_bit(chance, stair, one)
            so, no_less_so, levels = self.ask(stair, one, other)
            self.assertIs(so, levels is None)
            seen[so] += 1
            if not so:
                self.check_parted(stair, one, other, levels)
            for step in range(30):
                levels = low_levels(chance, stair, chance.choice([5, 40, 1000]))
                ends = plain_deeds(stair, levels, one)[0], plain_deeds(stair, levels, other)[0]
                if so:
                    self.assertEqual(*ends)
                if no_less_so:
                    for mine, yours in zip(plain_totals(ends[0]), plain_totals(ends[1])):
                        self.assertGreaterEqual(mine, yours)
        self.assertGreater(min(seen.values()), 50, seen)

    def test_no_less_where_it_is_told_otherwise(self):
        # Where it's told False, some levels show it: one pound far below, or none.
        chance = random.Random(144)
        shown = 0
        for turn in range(300):
            stair = some_stair(chance)
            one, other = some_deeds(chance, stair, 6), some_deeds(chance, stair, 6)
            brim = [most for least, most, size in stair]
            found = False
            for at in range(len(stair) + 1):
                levels = [level - 10 ** 6 * (place == at) for place, level in enumerate(brim)]
                ends = [plain_totals(plain_deeds(stair, levels, deeds)[0]) for deeds in (one, other)]
                found = found or any(mine < yours for mine, yours in zip(*ends))
            shown += found
            self.assertIs(no_less(stair, one, other), not found)
        self.assertGreater(shown, 100)

    def test_rounds_and_great_numbers(self):
        chance = random.Random(145)
        for turn in range(100):
            stair = tuple((0, chance.randint(0, FAR), chance.randint(1, FAR)) for at in range(chance.randint(1, 6)))
            one = some_round(chance, stair, ["low"] * len(stair), weight=FAR)
            other = shuffled_a_bit(chance, stair, one)
            so, no_less_so, levels = self.ask(stair, one, other)
            self.assertIs(so, levels is None)
            self.assertIs(so, no_less_so and no_less(stair, other, one))
            if levels is not None:
                self.check_parted(stair, one, other, levels)
