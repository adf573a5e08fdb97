"""endings.py: [11]."""

import copy
import random
import unittest

from liftwater.endings import goes, stood, told
from liftwater.errors import Dry
from liftwater.far import far_levels, total_at
from liftwater.rounds import sums_of
from tests.plain import far_case, lasting_case, more_of, plain_deeds, plain_dry, plain_ever
from tests.things import as_lists

FAR = 10 ** 20
EVER = ("for ever",)
TWO = ((1, 10, 4), (2, 8, 3))
LOWS = ("low", "low")


def forms(stair, stand, deeds):
    """The same handed in with lists for tuples and tuples for lists."""
    return ((stair, stand, deeds), (as_lists(stair), as_lists(stand), as_lists(deeds)), (stair, stand, tuple(deeds)),
            (stair, as_lists(stand), tuple(as_lists(deeds))))


class ToldTest(unittest.TestCase):
    def check(self, stair, stand, deeds, answer):
        for handed in forms(stair, stand, deeds):
            with self.subTest(repr(handed)):
                ahead = copy.deepcopy(handed)
                self.assertEqual(repr(told(*handed)), repr(answer))
                self.assertEqual(repr(told(*handed)), repr(answer))
                self.assertEqual(repr(handed), repr(ahead))

    def test_no_deeds(self):
        self.check(TWO, ((10, 8), LOWS), [], EVER)
        self.check(TWO, ((1, 2), LOWS), [], EVER)

    def test_for_ever_where_as_much_comes_as_goes(self):
        deeds = [("fill", 2), ("empty", 2), ("raise", 2, 3)]
        self.check(TWO, ((1, 5), LOWS), deeds, EVER)
        self.check(TWO, ((10, 8), LOWS), deeds, EVER)
        self.check(TWO, ((1, 4), LOWS), deeds, ("dry", 0, 0, 2))

    def test_only_raises_go_for_ever(self):
        self.check(TWO, ((1, 2), LOWS), [("raise", 1, 1), ("raise", 2, FAR)], EVER)

    def test_dry_in_the_first_round(self):
        self.check(TWO, ((10, 8), LOWS), [("raise", 1, 1), ("lower", 2, 7)], ("dry", 0, 1, 2))
        self.check(TWO, ((4, 8), LOWS), [("fill", 1), ("empty", 1)], ("dry", 0, 0, 1))
        self.check(TWO, ((4, 8), ("high", "low")), [("empty", 1), ("fill", 1)], ("dry", 0, 1, 1))

    def test_dry_within_the_first_rounds_and_just_behind_them(self):
        deeds = [("raise", 1, 1), ("lower", 2, 1)]
        for level in range(2, 9):
            self.check(TWO, ((1, level), LOWS), deeds, ("dry", level - 2, 1, 2))

    def test_far_on(self):
        stair = ((3, FAR, 1), (0, FAR, 7))
        self.check(stair, ((3, FAR), LOWS), [("lower", 2, 1)], ("dry", FAR, 0, 2))
        self.check(stair, ((FAR, 0), LOWS), [("lower", 1, 1)], ("dry", FAR - 3, 0, 1))
        self.check(stair, ((FAR, 0), LOWS), [("fill", 1), ("empty", 1)], ("dry", FAR - 3, 0, 1))
        self.check(stair, ((3, 10 ** 15), LOWS), [("fill", 2), ("empty", 2)], ("dry", 10 ** 15 // 7, 0, 2))
        self.check(stair, ((3, 10 ** 15), LOWS), [("lower", 2, 3), ("raise", 2, 2)], ("dry", 10 ** 15 - 2, 0, 2))
        self.check(stair, ((3, 10 ** 17), LOWS), [("lower", 1, 2), ("raise", 1, 1), ("fill", 2), ("empty", 2)],
                   ("dry", 0, 0, 1))
        # The sea takes one each round, out of what comes down by the lock above.
        self.check(stair, ((3, 10 ** 17), LOWS), [("fill", 2), ("empty", 2), ("lower", 1, 7)],
                   ("dry", 10 ** 17 // 7, 0, 2))

    def test_dry_only_in_the_middle_of_a_round(self):
        # Behind the round pound 2 would stand far enough above its least again.
        stair = ((0, FAR, 1), (3, FAR, 7))
        deeds = [("raise", 1, 1), ("lower", 2, 9), ("raise", 2, 8)]
        many = 10 ** 16 - 11
        self.check(stair, ((0, 10 ** 16), LOWS), deeds, ("dry", many, 1, 2))
        self.assertEqual(far_levels(stair, (0, 10 ** 16), deeds, many + 1)[1], 10)
        # Pound 1 is full ahead of each round; what it has in the middle runs over out of pound 2, once only.
        stair = ((0, 10, 1), (0, 100, 1))
        deeds = [("lower", 1, 10), ("raise", 2, 3), ("lower", 1, 2), ("lower", 2, 4), ("raise", 1, 100)]
        self.check(stair, ((10, 100), LOWS), deeds, ("dry", 1, 2, 1))
        self.check(stair, ((10, 98), LOWS), deeds, ("dry", 0, 2, 1))

    def test_the_first_of_several_that_sink(self):
        stair = ((0, FAR, 1), (0, FAR, 1), (0, FAR, 1))
        lows = ("low",) * 3
        deeds = [("lower", 1, 1), ("lower", 2, 1), ("lower", 3, 1)]
        self.check(stair, ((30, 20, 10), lows), deeds, ("dry", 10, 2, 3))
        self.check(stair, ((10, 20, 30), lows), deeds, ("dry", 10, 0, 1))
        self.check(stair, ((FAR, FAR - 5, FAR), lows), deeds, ("dry", FAR - 5, 1, 2))
        self.check(stair, ((FAR, FAR, FAR), lows), deeds, ("dry", FAR, 0, 1))
        self.check(stair, ((FAR, FAR, FAR), lows), deeds[::-1], ("dry", FAR, 0, 3))

    def test_a_level_that_dips_once_and_rises_again(self):
        # Pound 1 loses each round until pound 2 is full and runs over: at its lowest it's just at its least, or below.
        stair = ((0, 100, 1), (0, 50, 1))
        deeds = [("lower", 1, 2), ("raise", 2, 5)]
        for level in range(2, 40):
            near = plain_dry(stair, (level, 0), deeds, 100)
            self.check(stair, ((level, 0), LOWS), deeds, EVER if near is None else ("dry",) + near)
        self.check(stair, ((22, 0), LOWS), deeds, EVER)
        self.check(stair, ((19, 0), LOWS), deeds, ("dry", 9, 0, 1))

    def test_a_far_dip(self):
        # The same very far off: only behind half of 10 ** 18 rounds pound 2 is full, and begins to run over.
        stair = ((0, FAR, 1), (0, 10 ** 18, 1))
        deeds = [("lower", 1, 2), ("raise", 2, 1), ("raise", 2, 1)]
        full = 10 ** 18
        self.check(stair, ((full + 2, 0), LOWS), deeds, EVER)
        self.check(stair, ((full + 1, 0), LOWS), deeds, ("dry", full // 2, 0, 1))
        self.check(stair, ((full, 0), LOWS), deeds, ("dry", full // 2, 0, 1))
        self.check(stair, ((full - 1, 0), LOWS), deeds, ("dry", full // 2 - 1, 0, 1))

    def test_beside_a_plain_going(self):
        chance = random.Random(111)
        seen = {"for ever": 0, "near": 0, "just behind": 0, "further": 0}
        for turn in range(2500):
            stair, stand, deeds = lasting_case(chance)
            near = plain_dry(stair, stand[0], deeds, 150)
            answer = told(stair, stand, deeds)
            if answer == EVER:
                self.assertIs(near, None)
                self.assertIs(plain_ever(stair, stand[0], deeds), True)
                self.assertGreaterEqual(min(sums_of(stair, deeds)), 0)
                seen["for ever"] += 1
            elif near is None:
                self.assertGreaterEqual(answer[1], 150)
            else:
                self.assertEqual(answer, ("dry",) + near)
                many = answer[1] - len(stair)
                seen["near" if many < 0 else "just behind" if many < 2 else "further"] += 1
        self.assertGreater(min(seen.values()), 30, seen)

    def test_far_ones_beside_totals(self):
        chance = random.Random(112)
        seen = {True: 0, False: 0}
        for turn in range(300):
            stair, stand, deeds = far_case(chance)
            answer = told(stair, stand, deeds)
            seen[answer == EVER] += 1
            tried = [chance.randint(0, FAR) for step in range(3)] + [FAR]
            if answer != EVER:
                word, many, place, pound = answer
                self.assertEqual(plain_dry(stair, far_levels(stair, stand[0], deeds, many), deeds, 1),
                                 (0, place, pound))
                self.assertEqual(word, "dry")
                tried = [chance.randint(0, many - 1) for step in range(3)] + [many - 1] if many > 0 else []
            for many in tried:
                self.assertIs(plain_dry(stair, far_levels(stair, stand[0], deeds, many), deeds, 1), None)
        self.assertGreater(min(seen.values()), 50, seen)

    def test_a_fill_asks_its_pound_a_lower_its_own_and_no_other_deed(self):
        chance = random.Random(113)
        for turn in range(300):
            stair, stand, deeds = lasting_case(chance)
            answer = told(stair, stand, deeds)
            if answer != EVER:
                word, many, place, pound = answer
                self.assertIn(deeds[place][0], ("fill", "lower"))
                self.assertEqual(deeds[place][1], pound)
                level = (total_at(stair, stand[0], deeds, many, place, pound)
                         - total_at(stair, stand[0], deeds, many, place, pound + 1))
                self.assertLess(level + more_of(stair, deeds[place])[1], stair[pound - 1][0])


class GoesTest(unittest.TestCase):
    def check(self, stair, stand, deeds, many, so):
        for handed in forms(stair, stand, deeds):
            with self.subTest(f"{handed!r} {many}"):
                ahead = copy.deepcopy(handed)
                self.assertIs(goes(*handed, many), so)
                self.assertEqual(repr(handed), repr(ahead))

    def test_no_rounds(self):
        self.check(TWO, ((1, 2), LOWS), [("lower", 2, 9)], 0, True)
        self.check(TWO, ((1, 2), LOWS), [], 0, True)

    def test_as_many_as_told_tells_and_one_more(self):
        for level in range(2, 9):
            for many in range(12):
                self.check(TWO, ((1, level), LOWS), [("lower", 2, 1)], many, many <= level - 2)
        stair = ((0, FAR, 1), (0, FAR, 1))
        self.check(stair, ((FAR, FAR), LOWS), [("lower", 2, 1)], FAR, True)
        self.check(stair, ((FAR, FAR - 1), LOWS), [("lower", 2, 1)], FAR, False)
        self.check(stair, ((FAR, FAR - 1), LOWS), [("lower", 2, 1)], FAR - 1, True)

    def test_for_ever(self):
        deeds = [("fill", 2), ("empty", 2), ("raise", 2, 3)]
        for many in (0, 1, 2, 3, FAR):
            self.check(TWO, ((1, 5), LOWS), deeds, many, True)
            self.check(TWO, ((1, 2), LOWS), [], many, True)

    def test_many(self):
        chance = random.Random(114)
        for turn in range(200):
            stair, stand, deeds = lasting_case(chance)
            answer = told(stair, stand, deeds)
            if answer == EVER:
                self.assertIs(goes(stair, stand, deeds, FAR), True)
            else:
                self.assertIs(goes(stair, stand, deeds, answer[1]), True)
                self.assertIs(goes(stair, stand, deeds, answer[1] + 1), False)


class StoodTest(unittest.TestCase):
    def check(self, stair, stand, deeds, answer):
        for handed in forms(stair, stand, deeds):
            with self.subTest(repr(handed)):
                ahead = copy.deepcopy(handed)
                self.assertEqual(repr(stood(*handed)), repr(answer))
                self.assertEqual(repr(handed), repr(ahead))

    def test_levels_that_stand_at_once(self):
        self.check(TWO, ((3, 4), LOWS), [], (0, (3, 4)))
        self.check(TWO, ((10, 8), LOWS), [("raise", 2, 1)], (0, (10, 8)))
        self.check(TWO, ((10, 8), LOWS), [("lower", 2, 1), ("raise", 2, 1)], (0, (10, 8)))

    def test_ahead_of_at_and_behind_round_n(self):
        for level in range(1, 11):
            self.check(TWO, ((level, 8), LOWS), [("raise", 1, 1)], (10 - level, (10, 8)))
            self.check(TWO, ((level, 8), LOWS), [("raise", 1, 2)], ((11 - level) // 2, (10, 8)))

    def test_very_many_rounds(self):
        stair = ((0, FAR, 1), (0, FAR, 1))
        self.check(stair, ((0, 0), LOWS), [("raise", 2, 1)], (2 * FAR, (FAR, FAR)))
        self.check(stair, ((0, 0), LOWS), [("raise", 2, 3)], (2 * FAR // 3 + 1, (FAR, FAR)))
        self.check(stair, ((0, 7), LOWS), [("raise", 1, 1)], (FAR, (FAR, 7)))

    def test_refused_with_the_pound_that_told_tells(self):
        stair = ((0, FAR, 1), (0, FAR, 1), (0, FAR, 1))
        deeds = [("lower", 1, 1), ("lower", 2, 1), ("lower", 3, 1)]
        for levels, pound in (((30, 20, 10), 3), ((10, 20, 30), 1), ((FAR, 20, FAR), 2), ((0, 20, FAR), 1)):
            for handed in forms(stair, (levels, ("low",) * 3), deeds):
                ahead = copy.deepcopy(handed)
                with self.assertRaises(Dry) as caught:
                    stood(*handed)
                self.assertEqual(caught.exception.what, pound)
                self.assertEqual(repr(handed), repr(ahead))

    def test_beside_a_plain_going(self):
        chance = random.Random(115)
        firsts = {}
        for turn in range(1200):
            stair, stand, deeds = lasting_case(chance)
            answer = told(stair, stand, deeds)
            if answer != EVER:
                with self.assertRaises(Dry) as caught:
                    stood(stair, stand, deeds)
                self.assertEqual(caught.exception.what, answer[3])
                continue
            levels, first = stand[0], 0
            while plain_deeds(stair, levels, deeds)[0] != levels:
                levels, first = plain_deeds(stair, levels, deeds)[0], first + 1
            self.assertEqual(stood(stair, stand, deeds), (first, levels))
            where = (first > len(stair)) - (first < len(stair))
            firsts[where] = firsts.get(where, 0) + 1
        self.assertGreater(min(firsts[where] for where in (-1, 0, 1)), 5, firsts)

    def test_far_ones_the_least_number_and_one_less(self):
        chance = random.Random(116)
        tried = 0
        for turn in range(300):
            stair, stand, deeds = far_case(chance)
            if told(stair, stand, deeds) == EVER:
                first, levels = stood(stair, stand, deeds)
                for many in (first, first + 1, first + FAR):
                    self.assertEqual(far_levels(stair, stand[0], deeds, many), levels)
                if first > 0:
                    tried += 1
                    self.assertNotEqual(far_levels(stair, stand[0], deeds, first - 1), levels)
        self.assertGreater(tried, 30)
