"""far.py: [9] and [10]."""

import copy
import random
import unittest

from liftwater.far import far_levels, ran_over, rows_of, total_at
from liftwater.rounds import sums_of
from tests.plain import low_levels, plain_deeds, plain_totals, some_round, some_stair
from tests.things import as_lists

FAR = 10 ** 20


def some_cases(seed, turns, pounds=None):
    """Quadruples of chance, a stair, levels of it, some far below 0, and a round."""
    chance = random.Random(seed)
    for turn in range(turns):
        stair = some_stair(chance, pounds, wide=chance.choice([2, 6, 30]))
        chambers = [chance.choice(["low", "high"]) for pound in stair]
        levels = low_levels(chance, stair, deep=chance.choice([5, 40, 300]))
        yield chance, stair, levels, some_round(chance, stair, chambers)


def far_cases(seed, turns):
    """The same with great numbers, and rounds that change levels by little or by much."""
    chance = random.Random(seed)
    for turn in range(turns):
        stair = tuple((0, chance.randint(0, FAR), chance.choice([1, 7, 10 ** 6])) for at in range(chance.randint(1, 6)))
        chambers = [chance.choice(["low", "high"]) for pound in stair]
        deeds = some_round(chance, stair, chambers, weight=chance.choice([9, 10 ** 7]))
        yield chance, stair, low_levels(chance, stair, FAR), deeds


def plain_rounds(stair, levels, deeds, rounds):
    """The pairs (levels, ran) behind 0, 1, .. rounds, ran of all of these together."""
    told, ran = [], (0,) * len(stair)
    for many in range(rounds):
        told.append((levels, ran))
        levels, more = plain_deeds(stair, levels, deeds)
        ran = tuple(one + other for one, other in zip(ran, more))
    return told


def plain_total(stair, levels, deeds, place, pound):
    return (plain_totals(plain_deeds(stair, levels, deeds[:place])[0]) + (0,))[pound - 1]


class FarLevelsTest(unittest.TestCase):
    def test_by_hand(self):
        stair = ((0, 10, 4), (0, 8, 3))
        lift = [("fill", 2), ("empty", 2)]
        self.assertEqual(far_levels(stair, (10, 8), lift, 1), (10, 5))
        self.assertEqual(far_levels(stair, (0, 8), lift, 3), (9, -1))
        self.assertEqual(far_levels(stair, (0, 8), lift, FAR), (10, 8 - 3 * FAR))
        self.assertEqual(ran_over(stair, (0, 8), lift, FAR), (3 * FAR - 10, 0))

    def test_no_rounds(self):
        for chance, stair, levels, deeds in some_cases(91, 100):
            self.assertEqual(repr(far_levels(stair, list(levels), deeds, 0)), repr(levels))
            self.assertEqual(repr(ran_over(stair, list(levels), deeds, 0)), repr((0,) * len(stair)))

    def test_few_rounds_beside_a_plain_going(self):
        for chance, stair, levels, deeds in some_cases(92, 200):
            for many, (told, ran) in enumerate(plain_rounds(stair, levels, deeds, 25)):
                self.assertEqual(far_levels(stair, levels, deeds, many), told)
                self.assertEqual(ran_over(stair, levels, deeds, many), ran)

    def test_far_ones_from_two_parts(self):
        for chance, stair, levels, deeds in list(some_cases(93, 40)) + list(far_cases(94, 40)):
            for many in (FAR, FAR - 1, chance.randint(0, FAR)):
                part = chance.randint(0, many)
                between = far_levels(stair, levels, deeds, part)
                self.assertEqual(far_levels(stair, between, deeds, many - part), far_levels(stair, levels, deeds, many))
                ran = [ran_over(stair, levels, deeds, part), ran_over(stair, between, deeds, many - part)]
                self.assertEqual(tuple(map(sum, zip(*ran))), ran_over(stair, levels, deeds, many))

    def test_far_ones_one_round_on(self):
        for chance, stair, levels, deeds in list(some_cases(95, 40)) + list(far_cases(96, 40)):
            told = far_levels(stair, levels, deeds, FAR - 1)
            self.assertTrue(all(level <= pound[1] for level, pound in zip(told, stair)))
            behind, ran = plain_deeds(stair, told, deeds)
            self.assertEqual(far_levels(stair, levels, deeds, FAR), behind)
            more = zip(ran_over(stair, levels, deeds, FAR), ran_over(stair, levels, deeds, FAR - 1))
            self.assertEqual(tuple(one - other for one, other in more), ran)

    def test_no_deeds(self):
        for many in (0, 1, 5, FAR):
            self.assertEqual(far_levels(((0, 5, 1), (0, 9, 1)), (-3, 9), [], many), (-3, 9))
            self.assertEqual(ran_over(((0, 5, 1), (0, 9, 1)), (-3, 9), [], many), (0, 0))

    def test_all_that_came_is_there_or_ran_over(self):
        for chance, stair, levels, deeds in far_cases(97, 60):
            told = far_levels(stair, levels, deeds, FAR)
            ran = ran_over(stair, levels, deeds, FAR)
            for at, more in enumerate(sums_of(stair, deeds)):
                self.assertEqual(sum(levels[at:]) + FAR * more, sum(told[at:]) + ran[at])
                self.assertGreaterEqual(ran[at], 0)


class TotalAtTest(unittest.TestCase):
    def test_each_place_and_each_pound(self):
        for chance, stair, levels, deeds in some_cases(98, 60):
            for many, (told, ran) in enumerate(plain_rounds(stair, levels, deeds, 9)):
                for place in range(len(deeds) + 1):
                    totals = plain_totals(plain_deeds(stair, told, deeds[:place])[0]) + (0,)
                    pound = chance.randint(1, len(stair) + 1)
                    self.assertEqual(total_at(stair, levels, deeds, many, place, pound), totals[pound - 1])

    def test_every_pound_of_one(self):
        stair = ((0, 10, 4), (0, 8, 3), (0, 6, 2))
        deeds = [("fill", 3), ("raise", 1, 2), ("empty", 3), ("fill", 2), ("raise", 3, 1), ("empty", 2)]
        for many, (told, ran) in enumerate(plain_rounds(stair, (-9, 8, 2), deeds, 30)):
            for place in range(7):
                for pound in (1, 2, 3, 4):
                    total = plain_total(stair, told, deeds, place, pound)
                    self.assertEqual(total_at(stair, (-9, 8, 2), deeds, many, place, pound), total)

    def test_above_the_uppermost_pound_is_nought(self):
        for chance, stair, levels, deeds in far_cases(99, 20):
            for place in (0, len(deeds)):
                for many in (0, 1, FAR):
                    self.assertEqual(total_at(stair, levels, deeds, many, place, len(stair) + 1), 0)

    def test_far_ones(self):
        for chance, stair, levels, deeds in list(some_cases(100, 30)) + list(far_cases(101, 30)):
            for many in (FAR, chance.randint(0, FAR)):
                told = far_levels(stair, levels, deeds, many)
                place, pound = chance.randint(0, len(deeds)), chance.randint(1, len(stair) + 1)
                total = plain_total(stair, told, deeds, place, pound)
                self.assertEqual(total_at(stair, levels, deeds, many, place, pound), total)

    def test_behind_the_last_deed_is_ahead_of_the_next_round(self):
        for chance, stair, levels, deeds in some_cases(102, 60):
            for pound in range(1, len(stair) + 2):
                ahead = total_at(stair, levels, deeds, 8, 0, pound)
                self.assertEqual(total_at(stair, levels, deeds, 7, len(deeds), pound), ahead)

    def test_no_deeds(self):
        for many in (0, 1, FAR):
            told = [total_at(((0, 5, 1), (0, 9, 1)), (-3, 9), [], many, 0, pound) for pound in (1, 2, 3)]
            self.assertEqual(told, [6, 9, 0])


class RowsOfTest(unittest.TestCase):
    def form(self, stair, rows):
        self.assertIsInstance(rows, list)
        self.assertTrue(all(isinstance(row, tuple) and len(row) == 3 for row in rows))
        self.assertEqual(rows[0][0], len(stair))
        self.assertLessEqual(len(rows), 2 * len(stair) + 1)
        for one, other in zip(rows, rows[1:]):
            self.assertLess(one[0], other[0])
            self.assertGreater(one[1], other[1])

    def whole(self, rows, many):
        """The totals behind so many rounds that the rows tell, all of them that reach there."""
        ends = [row[0] for row in rows[1:]] + [None]
        return [begin + step * many for (first, step, begin), end in zip(rows, ends)
                if first <= many and (end is None or many <= end)]

    def test_by_hand(self):
        self.assertEqual(rows_of(((0, 10, 1),), (-20,), [("raise", 1, 5)], 0, 1), [(1, 5, -20), (6, 0, 10)])
        self.assertEqual(rows_of(((0, 10, 1),), (-20,), [("raise", 1, 5)], 1, 1), [(1, 5, -15), (5, 0, 10)])
        self.assertEqual(rows_of(((0, 10, 1),), (-20,), [("raise", 1, 5)], 0, 2), [(1, 0, 0)])
        self.assertEqual(rows_of(((0, 10, 1),), (10,), [("lower", 1, 5)], 0, 1), [(1, -5, 10)])
        self.assertEqual(rows_of(((0, 10, 1),), (10,), [("raise", 1, 5)], 0, 1), [(1, 0, 10)])

    def test_a_step_between_two_stretches(self):
        rows = rows_of(((0, 10, 1),), (-20,), [("raise", 1, 7)], 0, 1)
        self.assertEqual(rows, [(1, 7, -20), (4, 2, 0), (5, 0, 10)])
        rows = rows_of(((0, FAR, 1),), (-FAR,), [("raise", 1, 3)], 0, 1)
        bend = 2 * FAR // 3
        self.assertEqual(rows, [(1, 3, -FAR), (bend, 2, bend - FAR), (bend + 1, 0, FAR)])

    def test_no_deeds(self):
        for pound, total in ((1, 6), (2, 9), (3, 0)):
            self.assertEqual(rows_of(((0, 5, 1), (0, 9, 1)), (-3, 9), [], 0, pound), [(2, 0, total)])

    def test_several_dozen_rounds_beside_a_plain_going(self):
        seen, single = set(), 0
        for chance, stair, levels, deeds in some_cases(103, 500):
            place, pound = chance.randint(0, len(deeds)), chance.randint(1, len(stair) + 1)
            rows = rows_of(stair, levels, deeds, place, pound)
            self.form(stair, rows)
            seen.add(len(rows))
            single += any(one[0] + 1 == other[0] for one, other in zip(rows[1:], rows[2:]))
            for many, (told, ran) in enumerate(plain_rounds(stair, levels, deeds, 50)):
                if many >= len(stair):
                    total = plain_total(stair, told, deeds, place, pound)
                    self.assertEqual(set(self.whole(rows, many)), {total})
        self.assertTrue({1, 2, 3, 4} <= seen)
        self.assertGreater(single, 20)

    def test_beside_total_at(self):
        for chance, stair, levels, deeds in some_cases(104, 60):
            place, pound = chance.randint(0, len(deeds)), chance.randint(1, len(stair) + 1)
            rows = rows_of(stair, levels, deeds, place, pound)
            for many in list(range(len(stair), len(stair) + 40)) + [FAR]:
                self.assertEqual(set(self.whole(rows, many)), {total_at(stair, levels, deeds, many, place, pound)})

    def test_levels_far_below_nought_at_each_first_and_beside_it(self):
        bent = 0
        for chance, stair, levels, deeds in far_cases(105, 150):
            for pound in range(1, len(stair) + 2):
                place = chance.randint(0, len(deeds))
                rows = rows_of(stair, levels, deeds, place, pound)
                self.form(stair, rows)
                bent += len(rows) > 2
                for first in [row[0] for row in rows] + [FAR]:
                    for many in (first - 1, first, first + 1):
                        if many >= len(stair):
                            total = total_at(stair, levels, deeds, many, place, pound)
                            self.assertEqual(set(self.whole(rows, many)), {total})
        self.assertGreater(bent, 100)

    def test_the_most_rows_there_can_be(self):
        # Each pound's own sum is less than that of the one below, so the total bends at each in turn.
        found = 0
        for seed in range(200):
            chance = random.Random(seed)
            stair = tuple((0, chance.randint(1, 10 ** 9), 1) for at in range(3))
            deeds = [("raise", 3, 101), ("raise", 2, 1013), ("raise", 1, 10007)]
            levels = tuple(-chance.randint(10 ** 10, 10 ** 14) for pound in stair)
            rows = rows_of(stair, levels, deeds, 0, 1)
            self.form(stair, rows)
            found = max(found, len(rows))
        self.assertEqual(found, 7)


class FarFormsTest(unittest.TestCase):
    def test_lists_for_tuples_and_all_stays(self):
        for chance, stair, levels, deeds in some_cases(106, 40):
            place, pound = chance.randint(0, len(deeds)), chance.randint(1, len(stair) + 1)
            for ask, more in ((far_levels, (9,)), (ran_over, (9,)), (total_at, (9, place, pound)),
                              (rows_of, (place, pound))):
                told = ask(stair, levels, deeds, *more)
                for form in ((as_lists(stair), list(levels), as_lists(deeds)), (stair, levels, tuple(deeds)),
                             (as_lists(stair), levels, tuple(as_lists(deeds)))):
                    ahead = copy.deepcopy(form)
                    self.assertEqual(repr(ask(*form, *more)), repr(told))
                    self.assertEqual(repr(ask(*form, *more)), repr(told))
                    self.assertEqual(repr(form), repr(ahead))

    def test_changing_what_is_told_changes_no_other_answer(self):
        handed = (((0, 10, 1),), (-20,), [("raise", 1, 5)], 0, 1)
        rows_of(*handed).clear()
        self.assertEqual(rows_of(*handed), [(1, 5, -20), (6, 0, 10)])
