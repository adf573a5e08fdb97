"""tables.py: [8]."""

import copy
import itertools
import random
import unittest

from liftwater.rounds import sums_of
from liftwater.tables import behind, is_table, led, power, table_of
from tests.plain import low_levels, overrun, plain_deeds, plain_totals, some_case, some_round, some_stair
from tests.things import any_things, as_lists, with_one_otherwise

THREE = ((1, 2, 3, 4), (5, 6, 7), (8, 9))


def some_table(chance, pounds, size=30):
    return tuple(tuple(chance.randint(-size, size) for place in range(pounds + 1 - at)) for at in range(pounds))


def tables_and_totals(seed, turns=200, size=30):
    chance = random.Random(seed)
    for turn in range(turns):
        pounds = chance.randint(1, 6)
        totals = tuple(chance.randint(-2 * size, 2 * size) for at in range(pounds))
        yield chance, pounds, some_table(chance, pounds, size), totals


class IsTableTest(unittest.TestCase):
    def check(self, many, thing, so):
        with self.subTest(f"{many} {thing!r}"):
            ahead = copy.deepcopy(thing)
            self.assertIs(is_table(many, thing), so)
            self.assertEqual(repr(thing), repr(ahead))

    def test_right_ones(self):
        self.check(3, THREE, True)
        self.check(1, ((0, 0),), True)
        self.check(2, ((-1, 10 ** 40, -10 ** 40), (0, 0)), True)
        for pounds in range(1, 9):
            self.check(pounds, some_table(random.Random(1), pounds), True)

    def test_one_pound_more_and_one_fewer(self):
        for pounds in range(1, 7):
            table = some_table(random.Random(2), pounds)
            for many in range(0, 9):
                self.check(many, table, many == pounds)

    def test_rows_too_long_too_short_too_many_too_few(self):
        for at, row in enumerate(THREE):
            for other in (row + (1,), row[:-1], row[1:], ()):
                self.check(3, THREE[:at] + (other,) + THREE[at + 1:], False)
        self.check(3, THREE + ((1,),), False)
        self.check(3, THREE + ((),), False)
        self.check(3, THREE[:2], False)
        self.check(3, THREE[1:], False)
        self.check(3, THREE[::-1], False)
        self.check(3, (), False)

    def test_all_rows_of_the_same_length(self):
        self.check(2, ((1, 1, 1), (1, 1, 1)), False)
        self.check(2, ((1, 1), (1, 1)), False)

    def test_lists_for_tuples(self):
        self.check(3, list(THREE), False)
        self.check(3, as_lists(THREE), False)
        for at in range(3):
            self.check(3, THREE[:at] + (list(THREE[at]),) + THREE[at + 1:], False)

    def test_one_number_of_another_kind(self):
        for thing in with_one_otherwise(((1, 1, 1), (1, 1)), (True, False, None, "1", "", (1,), [1], (), [])):
            self.check(2, thing, False)

    def test_anything(self):
        right = [repr((pair,)) for part in (0, 1, -1, 7, 10 ** 30) for pair in ((part, part), (part, 1))]
        things = any_things()
        for thing in things + [(thing,) for thing in things]:
            self.check(1, thing, repr(thing) in right)
            self.check(2, thing, False)


class LedTest(unittest.TestCase):
    def test_by_hand(self):
        self.assertEqual(led(((3, 10),), (4,)), (7,))
        self.assertEqual(led(((3, 10),), (8,)), (10,))
        self.assertEqual(led(((3, 10),), (7,)), (10,))
        self.assertEqual(led(((0, 5, 9), (-2, 3)), (1, 1)), (1, -1))
        self.assertEqual(led(((0, 5, 9), (-2, 3)), (100, 2)), (7, 0))
        self.assertEqual(led(((0, 5, 9), (-2, 3)), (100, 100)), (9, 3))
        self.assertEqual(led(THREE, (-50, -50, -60)), (-57, -54, -52))

    def test_the_last_place_counts_alone(self):
        for totals in ((10 ** 20,) * 3, (10 ** 30,) * 3):
            self.assertEqual(led(THREE, totals), (4, 7, 9))

    def test_each_place_by_itself(self):
        for chance, pounds, table, totals in tables_and_totals(81):
            for row, place in itertools.product(range(pounds), range(pounds)):
                totals = [10 ** 9] * pounds
                totals[place] = -10 ** 9
                told = led(table, totals)[row]
                self.assertEqual(told, table[row][place - row] - 10 ** 9 if place >= row else table[row][-1])

    def test_lists_for_tuples_and_all_stays(self):
        for chance, pounds, table, totals in tables_and_totals(82, 30):
            handed = as_lists(table), list(totals)
            ahead = copy.deepcopy(handed)
            self.assertEqual(repr(led(*handed)), repr(led(table, totals)))
            self.assertEqual(repr(handed), repr(ahead))


class TableOfTest(unittest.TestCase):
    def test_by_hand(self):
        stair = ((1, 10, 4), (2, 8, 3))
        self.assertEqual(table_of(stair, []), ((0, 10, 18), (0, 8)))
        self.assertEqual(table_of(stair, [("raise", 2, 1)]), ((1, 11, 18), (1, 8)))
        self.assertEqual(table_of(stair, [("lower", 2, 1)]), ((-1, 9, 17), (-1, 7)))
        self.assertEqual(table_of(stair, [("fill", 2), ("empty", 2)]), ((0, 7, 15), (-3, 5)))
        self.assertEqual(table_of(stair, [("fill", 1), ("empty", 1)]), ((-4, 6, 14), (0, 8)))
        self.assertEqual(table_of(((0, 5, 1),), [("lower", 1, 9)]), ((-9, -4),))

    def check(self, stair, levels, deeds):
        totals = plain_totals(overrun(stair, levels)[0])
        behind_all = plain_totals(plain_deeds(stair, overrun(stair, levels)[0], deeds)[0])
        table = table_of(stair, deeds)
        self.assertIs(is_table(len(stair), table), True)
        self.assertEqual(led(table, plain_totals(levels)), behind_all)
        self.assertEqual(led(table, totals), behind_all)
        self.assertEqual(tuple(row[0] for row in table), sums_of(stair, deeds))

    def test_beside_a_plain_going(self):
        chance = random.Random(83)
        for turn in range(600):
            stair = some_stair(chance, wide=chance.choice([0, 2, 6]))
            chambers = [chance.choice(["low", "high"]) for pound in stair]
            deeds = some_round(chance, stair, chambers) if turn > 60 else []
            self.check(stair, low_levels(chance, stair), deeds)
            self.check(stair, [most + chance.randint(-20, 20) for least, most, size in stair], deeds)
            self.check(stair, [chance.randint(-40, 40) for pound in stair], deeds)

    def test_deeds_that_are_no_round(self):
        chance = random.Random(84)
        for turn in range(300):
            stair = some_stair(chance)
            turns = [(chance.choice(["fill", "empty"]), chance.randint(1, len(stair))) for step in range(6)]
            self.check(stair, [chance.randint(-40, 40) for pound in stair], turns)

    def test_there_is_just_one(self):
        # Where one total lies far below the others, or none does, a single number of each row is to be seen.
        chance = random.Random(85)
        for turn in range(200):
            stair, stand, deeds = some_case(chance)
            table = table_of(stair, deeds)
            for place in range(len(stair) + 1):
                totals = [10 ** 6] * len(stair)
                if place < len(stair):
                    totals[place] = -10 ** 6
                levels = [one - other for one, other in zip(totals, totals[1:] + [0])]
                told = plain_totals(plain_deeds(stair, overrun(stair, levels)[0], deeds)[0])
                for row in range(place + 1):
                    if row < len(stair):
                        start = -10 ** 6 if place < len(stair) else 0
                        self.assertEqual(told[row], table[row][place - row] + start)

    def test_lists_for_tuples_and_all_stays(self):
        chance = random.Random(86)
        for turn in range(100):
            stair, stand, deeds = some_case(chance)
            for handed in ((as_lists(stair), as_lists(deeds)), (stair, tuple(deeds)), (as_lists(stair), deeds)):
                ahead = copy.deepcopy(handed)
                self.assertEqual(repr(table_of(*handed)), repr(table_of(stair, deeds)))
                self.assertEqual(repr(handed), repr(ahead))


class BehindTest(unittest.TestCase):
    def test_by_hand(self):
        self.assertEqual(behind(((1, 10),), ((2, 20),)), ((3, 12),))
        self.assertEqual(behind(((2, 20),), ((1, 10),)), ((3, 10),))
        self.assertEqual(behind(((1, 5, 9), (2, 4)), ((3, 0, 7), (1, 8))), ((4, 2, 4), (3, 5)))

    def test_beside_led_one_behind_the_other(self):
        for chance, pounds, one, totals in tables_and_totals(87):
            other = some_table(chance, pounds)
            both = behind(one, other)
            self.assertIs(is_table(pounds, both), True)
            self.assertEqual(led(both, totals), led(other, led(one, totals)))
            for far in (10 ** 6, -10 ** 6):
                for place in range(pounds):
                    totals = [0] * place + [far] + [0] * (pounds - 1 - place)
                    self.assertEqual(led(both, totals), led(other, led(one, totals)))

    def test_tables_of_deeds(self):
        chance = random.Random(88)
        for turn in range(200):
            stair, stand, deeds = some_case(chance)
            for cut in (0, len(deeds) // 2, len(deeds)):
                parts = table_of(stair, deeds[:cut]), table_of(stair, deeds[cut:])
                self.assertEqual(behind(*parts), table_of(stair, deeds))

    def test_lists_for_tuples_and_all_stays(self):
        for chance, pounds, one, totals in tables_and_totals(89, 30):
            other = some_table(chance, pounds)
            handed = as_lists(one), as_lists(other)
            ahead = copy.deepcopy(handed)
            self.assertEqual(repr(behind(*handed)), repr(behind(one, other)))
            self.assertEqual(repr(handed), repr(ahead))


class PowerTest(unittest.TestCase):
    def test_many_one(self):
        for chance, pounds, table, totals in tables_and_totals(90, 30):
            for form in (table, as_lists(table)):
                self.assertEqual(repr(power(form, 1)), repr(table))

    def test_what_is_told_is_the_askers_own(self):
        handed = as_lists(THREE)
        told = power(handed, 1)
        handed[0][0] = 99
        self.assertEqual(told, THREE)

    def test_small_ones_beside_one_behind_the_other(self):
        for chance, pounds, table, totals in tables_and_totals(91, 60):
            whole, led_so_far = table, led(table, totals)
            for many in range(1, 20):
                self.assertEqual(power(table, many), whole)
                self.assertEqual(led(power(table, many), totals), led_so_far)
                whole, led_so_far = behind(whole, table), led(table, led_so_far)

    def test_far_ones_from_two_parts(self):
        for chance, pounds, table, totals in tables_and_totals(92, 20, 10 ** 20):
            for many in (10 ** 20, 10 ** 20 - 1, 2 ** 64, chance.randint(2, 10 ** 20)):
                part = chance.randint(1, many - 1)
                told = power(table, many)
                self.assertIs(is_table(pounds, told), True)
                self.assertEqual(told, behind(power(table, part), power(table, many - part)))

    def test_by_hand(self):
        self.assertEqual(power(((1, 10),), 10 ** 20), ((10 ** 20, 10),))
        self.assertEqual(power(((-1, 10),), 10 ** 20), ((-10 ** 20, 11 - 10 ** 20),))
        self.assertEqual(power(((0, -3),), 10 ** 20), ((0, -3),))
        self.assertEqual(power(((-2, 0, 0), (1, 5)), 10 ** 20),
                         ((-2 * 10 ** 20, 2 - 2 * 10 ** 20, 2 - 2 * 10 ** 20), (10 ** 20, 5)))

    def test_what_was_told_may_be_handed_in_again(self):
        table = power(((-1, 10),), 10 ** 20)
        self.assertEqual(power(table, 10 ** 20)[0][0], -10 ** 40)

    def test_handed_in_lists_stay(self):
        handed = as_lists(THREE)
        ahead = copy.deepcopy(handed)
        self.assertEqual(repr(power(handed, 10 ** 20)), repr(power(THREE, 10 ** 20)))
        self.assertEqual(repr(handed), repr(ahead))
