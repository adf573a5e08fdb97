"""begins.py: [13]."""

import copy
import random
import unittest

from liftwater.begins import least_level, least_thaw, most_taken, stones_of
from liftwater.endings import told
from liftwater.rounds import sums_of
from tests.plain import far_case, lasting_case, plain_ever, some_case
from tests.things import as_lists

FAR = 10 ** 20
EVER = ("for ever",)
LOWS = ("low", "low")
TWO = ((1, 10, 4), (2, 8, 3))


def forms(stair, stand, deeds):
    return ((stair, stand, deeds), (as_lists(stair), as_lists(stand), as_lists(deeds)), (stair, stand, tuple(deeds)),
            (as_lists(stair), stand, tuple(as_lists(deeds))))


def with_level(stand, pound, level):
    levels, chambers = stand
    return levels[:pound - 1] + (level,) + levels[pound:], chambers


def thawed(stair, deeds, many):
    return [("raise", len(stair), many)] * (many > 0) + deeds


def taken(deeds, pound, many):
    return deeds + [("lower", pound, many)] * (many > 0)


class BeginsCase(unittest.TestCase):
    def told_of(self, ask, stair, stand, deeds, *more):
        """The answer, the same for each form of what is handed in, which stays."""
        answers = []
        for handed in forms(stair, stand, deeds):
            ahead = copy.deepcopy(handed)
            answers.append(ask(*handed, *more))
            self.assertEqual(repr(handed), repr(ahead))
        self.assertEqual(len(set(map(repr, answers))), 1, (stair, stand, deeds, more))
        return answers[0]


class LeastLevelTest(BeginsCase):
    def check(self, stair, stand, deeds, pound, answer):
        with self.subTest(f"{stair} {stand} {deeds} {pound}"):
            self.assertEqual(self.told_of(least_level, stair, stand, deeds, pound), answer)

    def test_by_hand(self):
        lift = [("fill", 2), ("empty", 2), ("raise", 2, 3)]
        self.check(TWO, ((10, 8), LOWS), lift, 2, 5)
        self.check(TWO, ((10, 2), LOWS), lift, 2, 5)
        self.check(TWO, ((10, 5), LOWS), lift, 1, 1)
        self.check(TWO, ((10, 4), LOWS), lift, 1, None)

    def test_at_the_least_and_at_the_most(self):
        self.check(TWO, ((5, 5), LOWS), [], 1, 1)
        self.check(TWO, ((5, 5), LOWS), [], 2, 2)
        for many in range(1, 7):
            self.check(TWO, ((5, 5), LOWS), [("lower", 2, many), ("raise", 2, many)], 2, 2 + many)
        self.check(TWO, ((5, 5), LOWS), [("lower", 2, 7), ("raise", 2, 7)], 2, None)
        self.check(((4, 4, 1),), ((4,), ("low",)), [("raise", 1, 1)], 1, 4)
        self.check(((4, 4, 1),), ((4,), ("low",)), [("lower", 1, 1), ("raise", 1, 1)], 1, None)

    def test_none_where_a_sum_is_below_nought(self):
        self.check(TWO, ((10, 8), LOWS), [("lower", 2, 1)], 2, None)
        self.check(TWO, ((10, 8), LOWS), [("lower", 2, 1)], 1, None)
        self.check(((0, FAR, 1),), ((FAR,), ("low",)), [("lower", 1, 2), ("raise", 1, 1)], 1, None)

    def test_very_great_numbers(self):
        # Pound 1 sinks until pound 2 is full, behind half of 10 ** 18 rounds.
        stair = ((0, FAR, 1), (0, 10 ** 18, 1))
        deeds = [("lower", 1, 2), ("raise", 2, 2)]
        self.check(stair, ((0, 0), LOWS), deeds, 1, 10 ** 18 + 2)
        self.check(stair, ((10 ** 17, 0), LOWS), deeds, 2, 9 * 10 ** 17 + 2)
        self.check(stair, ((0, 0), LOWS), [("lower", 1, FAR), ("raise", 1, FAR)], 1, FAR)

    def test_beside_a_plain_going(self):
        chance = random.Random(131)
        seen = {True: 0, False: 0}
        for turn in range(250):
            stair, stand, deeds = lasting_case(chance, 8)
            pound = chance.randint(1, len(stair))
            least, most, size = stair[pound - 1]
            right = [level for level in range(least, most + 1)
                     if plain_ever(stair, with_level(stand, pound, level)[0], deeds)]
            self.check(stair, stand, deeds, pound, right[0] if right else None)
            seen[bool(right)] += 1
        self.assertGreater(min(seen.values()), 50)

    def test_far_ones_the_number_told_and_one_less(self):
        chance = random.Random(132)
        between = 0
        for turn in range(80):
            stair, stand, deeds = far_case(chance)
            pound = chance.randint(1, len(stair))
            least, most, size = stair[pound - 1]
            level = least_level(stair, stand, deeds, pound)
            if level is None:
                self.assertNotEqual(told(stair, with_level(stand, pound, most), deeds), EVER)
                continue
            self.assertEqual(told(stair, with_level(stand, pound, level), deeds), EVER)
            if level > least:
                between += 1
                self.assertNotEqual(told(stair, with_level(stand, pound, level - 1), deeds), EVER)
        self.assertGreater(between, 5)


class LeastThawTest(BeginsCase):
    def check(self, stair, stand, deeds, answer):
        with self.subTest(f"{stair} {stand} {deeds}"):
            self.assertEqual(self.told_of(least_thaw, stair, stand, deeds), answer)

    def test_nought(self):
        self.check(TWO, ((1, 2), LOWS), [], 0)
        self.check(TWO, ((10, 8), LOWS), [("fill", 2), ("empty", 2), ("raise", 2, 3)], 0)
        self.check(((0, 0, 1),), ((0,), ("low",)), [], 0)

    def test_by_hand(self):
        lift = [("fill", 2), ("empty", 2)]
        self.check(TWO, ((10, 8), LOWS), lift, 3)
        self.check(TWO, ((10, 2), LOWS), lift, 3)
        self.check(TWO, ((10, 8), LOWS), lift + [("fill", 1), ("empty", 1)], 4)
        # It must fill pound 2 first, and run over, ahead of the very first deed.
        self.check(TWO, ((1, 2), LOWS), [("lower", 1, 1), ("raise", 1, 1)], 7)
        self.check(TWO, ((1, 2), LOWS), [("lower", 1, 9), ("raise", 1, 9)], 15)

    def test_none(self):
        self.check(TWO, ((10, 8), LOWS), [("lower", 1, 10)], None)
        self.check(((0, 3, 4),), ((3,), ("low",)), [("fill", 1), ("empty", 1)], None)
        self.check(((0, 0, 1),), ((0,), ("low",)), [("lower", 1, 1)], None)
        self.check(TWO, ((10, 8), LOWS), [("lower", 2, 5), ("lower", 2, 5)], None)

    def test_very_great_numbers(self):
        stair = ((0, FAR, 1), (0, FAR, 1))
        self.check(stair, ((0, 0), LOWS), [("lower", 1, FAR)], 2 * FAR)
        self.check(stair, ((FAR, FAR), LOWS), [("lower", 1, FAR)], FAR)
        self.check(stair, ((FAR, FAR), LOWS), [("lower", 1, FAR), ("lower", 2, FAR)], 2 * FAR)
        self.check(stair, ((0, 0), LOWS), [("lower", 2, 10 ** 15 + 1)], 10 ** 15 + 1)

    def test_beside_a_plain_going(self):
        chance = random.Random(133)
        seen = {"none": 0, "nought": 0, "more": 0}
        for turn in range(200):
            stair, stand, deeds = lasting_case(chance, 6)
            beyond = sum(pound[1] for pound in stair) + 20
            right = [many for many in range(beyond) if plain_ever(stair, stand[0], thawed(stair, deeds, many))]
            self.check(stair, stand, deeds, right[0] if right else None)
            seen["none" if not right else "nought" if right[0] == 0 else "more"] += 1
        self.assertGreater(min(seen.values()), 15, seen)

    def test_far_ones_the_number_told_and_one_less(self):
        chance = random.Random(134)
        more = 0
        for turn in range(80):
            stair, stand, deeds = far_case(chance)
            many = least_thaw(stair, stand, deeds)
            if many is None:
                self.assertNotEqual(told(stair, stand, thawed(stair, deeds, 6 * FAR)), EVER)
                continue
            self.assertEqual(told(stair, stand, thawed(stair, deeds, many)), EVER)
            if many > 0:
                more += 1
                self.assertNotEqual(told(stair, stand, thawed(stair, deeds, many - 1)), EVER)
        self.assertGreater(more, 15)


class MostTakenTest(BeginsCase):
    def check(self, stair, stand, deeds, pound, answer):
        with self.subTest(f"{stair} {stand} {deeds} {pound}"):
            self.assertEqual(self.told_of(most_taken, stair, stand, deeds, pound), answer)

    def test_by_hand(self):
        self.check(TWO, ((10, 8), LOWS), [("raise", 2, 5)], 2, 5)
        self.check(TWO, ((10, 8), LOWS), [("raise", 2, 5)], 1, 5)
        self.check(TWO, ((10, 8), LOWS), [("raise", 1, 5)], 2, 0)
        self.check(TWO, ((10, 8), LOWS), [("fill", 2), ("empty", 2), ("raise", 2, 5)], 1, 5)
        self.check(TWO, ((10, 8), LOWS), [("fill", 2), ("empty", 2), ("raise", 2, 5)], 2, 2)

    def test_no_more_than_from_the_most_to_the_least(self):
        self.check(TWO, ((10, 8), LOWS), [("raise", 2, 50)], 2, 6)
        self.check(TWO, ((10, 8), LOWS), [("raise", 2, 50)], 1, 9)
        self.check(((4, 4, 1),), ((4,), ("low",)), [("raise", 1, 50)], 1, 0)

    def test_nought(self):
        self.check(TWO, ((10, 8), LOWS), [], 1, 0)
        self.check(TWO, ((10, 8), LOWS), [], 2, 0)
        self.check(TWO, ((1, 2), LOWS), [("lower", 2, 1), ("raise", 2, 1)][::-1], 2, 0)

    def test_none_where_the_round_itself_does_not_go(self):
        self.check(TWO, ((10, 8), LOWS), [("lower", 1, 1)], 2, None)
        self.check(TWO, ((10, 4), LOWS), [("fill", 2), ("empty", 2), ("raise", 2, 3)], 1, None)

    def test_very_great_numbers(self):
        stair = ((0, FAR, 1), (0, FAR, 1))
        self.check(stair, ((FAR, FAR), LOWS), [("raise", 2, FAR)], 1, FAR)
        self.check(stair, ((FAR, FAR), LOWS), [("raise", 2, 10 ** 16 + 1)], 2, 10 ** 16 + 1)
        # From 0 pound 1 only has what is raised there itself, until pound 2 is full.
        self.check(stair, ((0, 0), LOWS), [("raise", 2, FAR), ("raise", 1, 9)], 1, 9)

    def test_beside_a_plain_going(self):
        chance = random.Random(135)
        seen = {"none": 0, "nought": 0, "more": 0}
        for turn in range(250):
            stair, stand, deeds = lasting_case(chance, 8)
            pound = chance.randint(1, len(stair))
            right = [many for many in range(30) if plain_ever(stair, stand[0], taken(deeds, pound, many))]
            self.check(stair, stand, deeds, pound, right[-1] if right else None)
            seen["none" if not right else "nought" if right[-1] == 0 else "more"] += 1
        self.assertGreater(min(seen.values()), 15, seen)

    def test_far_ones_the_number_told_and_one_more(self):
        chance = random.Random(136)
        more = 0
        for turn in range(80):
            stair, stand, deeds = far_case(chance)
            pound = chance.randint(1, len(stair))
            many = most_taken(stair, stand, deeds, pound)
            if many is None:
                self.assertNotEqual(told(stair, stand, deeds), EVER)
                continue
            more += many > 0
            self.assertEqual(told(stair, stand, taken(deeds, pound, many)), EVER)
            self.assertNotEqual(told(stair, stand, taken(deeds, pound, many + 1)), EVER)
        self.assertGreater(more, 15)


class StonesOfTest(unittest.TestCase):
    def check(self, stair, deeds, answer):
        for handed in ((stair, deeds), (as_lists(stair), as_lists(deeds)), (stair, tuple(deeds))):
            ahead = copy.deepcopy(handed)
            self.assertEqual(stones_of(*handed), answer)
            self.assertEqual(repr(handed), repr(ahead))

    def test_nought(self):
        self.check(TWO, [], 0)
        self.check(TWO, [("raise", 2, 5)], 0)
        self.check(TWO, [("fill", 2), ("empty", 2), ("raise", 2, 3)], 0)
        self.check(TWO, [("lower", 2, 5), ("raise", 2, 5)], 0)

    def test_by_hand(self):
        self.check(TWO, [("fill", 2), ("empty", 2)], 3)
        self.check(TWO, [("fill", 1), ("empty", 1)], 4)
        self.check(TWO, [("fill", 1), ("empty", 1), ("fill", 2), ("empty", 2)], 4)
        self.check(TWO, [("fill", 1), ("empty", 1), ("fill", 2), ("empty", 2)] * 3, 12)
        self.check(TWO, [("lower", 1, 10 ** 20), ("raise", 2, 1)], 10 ** 20 - 1)
        # What is raised at pound 1 helps no pound above it.
        self.check(TWO, [("fill", 2), ("empty", 2), ("raise", 1, 99)], 3)

    def test_one_less_and_as_many_beside_the_sums(self):
        chance = random.Random(137)
        more = 0
        for turn in range(300):
            stair, stand, deeds = some_case(chance)
            many = stones_of(stair, deeds)
            self.check(stair, deeds, many)
            self.assertGreaterEqual(min(sums_of(stair, thawed(stair, deeds, many))), 0)
            if many > 0:
                more += 1
                self.assertLess(min(sums_of(stair, thawed(stair, deeds, many - 1))), 0)
        self.assertGreater(more, 100)
