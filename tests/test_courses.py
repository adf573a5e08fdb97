"""courses.py: [15]."""

import copy
import random
import unittest

from liftwater.courses import course_end, course_told
from liftwater.deeds import gone
from liftwater.endings import told
from liftwater.errors import Dry
from liftwater.far import far_levels, ran_over
from tests.plain import far_case, lasting_case, plain_deeds, plain_dry, some_round
from tests.things import as_lists

FAR = 10 ** 20
LOWS = ("low", "low")
TWO = ((1, 10, 4), (2, 8, 3))
WIDE = ((0, FAR, 1), (3, FAR, 7))


def plain_course(stair, stand, course):
    """The pair of what course_told and course_end are to tell, gone through round by round."""
    levels, ran = tuple(stand[0]), (0,) * len(stair)
    for number, (deeds, many) in enumerate(course):
        for ahead in range(many):
            dry = plain_dry(stair, levels, deeds, 1)
            if dry is not None:
                return (number, ahead) + dry[1:], None
            levels, more = plain_deeds(stair, levels, deeds)
            ran = tuple(one + other for one, other in zip(ran, more))
    return None, ((levels, tuple(stand[1])), ran)


def some_course(chance, stair, chambers, most=12):
    course = []
    for pair in range(chance.randint(0, 5)):
        deeds = some_round(chance, stair, chambers, turns=chance.choice([0, 1, 2]))
        deeds += [("raise", len(stair), chance.randint(1, 15))] * chance.randint(0, 1)
        course.append((deeds, chance.choice([0, 1, chance.randint(0, most)])))
    return course


class CoursesTest(unittest.TestCase):
    def check(self, stair, stand, course, dry, end=None):
        for handed in ((stair, stand, course), (as_lists(stair), as_lists(stand), as_lists(course)),
                       (stair, as_lists(stand), tuple([(tuple(deeds), many) for deeds, many in course])),
                       (stair, stand, tuple(as_lists(course)))):
            with self.subTest(repr(handed)):
                ahead = copy.deepcopy(handed)
                self.assertEqual(repr(course_told(*handed)), repr(dry))
                if dry is None:
                    self.assertEqual(repr(course_end(*handed)), repr(end))
                else:
                    with self.assertRaises(Dry) as caught:
                        course_end(*handed)
                    self.assertIs(caught.exception.__class__, Dry)
                    self.assertEqual(vars(caught.exception), {"what": dry[3]})
                self.assertEqual(repr(course_told(*handed)), repr(dry))
                self.assertEqual(repr(handed), repr(ahead))

    def test_no_pairs(self):
        for stand in (((10, 8), LOWS), ((1, 2), ("high", "low"))):
            self.check(TWO, stand, [], None, (stand, (0, 0)))

    def test_a_pair_of_none(self):
        stand = ((3, 4), ("low", "high"))
        self.check(TWO, stand, [([("lower", 2, 7)], 0)], None, (stand, (0, 0)))
        self.check(TWO, stand, [([("lower", 2, 7)], 0)] * 12, None, (stand, (0, 0)))
        self.check(TWO, stand, [([], 0)], None, (stand, (0, 0)))
        self.check(TWO, stand, [([("lower", 2, 7)], 0), ([("lower", 1, 1)], 2)], None, (((1, 4), stand[1]), (0, 0)))

    def test_rounds_of_no_deeds(self):
        stand = ((3, 4), ("low", "high"))
        for many in (1, 2, FAR):
            self.check(TWO, stand, [([], many)], None, (stand, (0, 0)))

    def test_by_hand(self):
        lift = [("fill", 2), ("empty", 2)]
        self.check(TWO, ((10, 8), LOWS), [(lift, 2)], None, (((10, 2), LOWS), (6, 0)))
        self.check(TWO, ((10, 8), LOWS), [(lift, 2), ([("raise", 2, 4)], 2)], None, (((10, 8), LOWS), (8, 2)))
        self.check(TWO, ((10, 8), LOWS), [(lift, 2), ([("raise", 2, 4)], 2), (lift, 2)], None,
                   (((10, 2), LOWS), (14, 2)))

    def test_dry_in_the_first_pair(self):
        lift = [("raise", 1, 1), ("fill", 2), ("empty", 2)]
        self.check(TWO, ((10, 8), LOWS), [(lift, 3)], (0, 2, 1, 2))
        self.check(TWO, ((10, 4), LOWS), [(lift, 1), ([], 1)], (0, 0, 1, 2))
        self.check(TWO, ((10, 8), LOWS), [(lift, FAR)], (0, 2, 1, 2))

    def test_as_many_as_are_let_and_one_more(self):
        lower = [("lower", 2, 1)]
        for many in range(7):
            self.check(TWO, ((10, 8), LOWS), [(lower, many)], None, (((10, 8 - many), LOWS), (0, 0)))
        self.check(TWO, ((10, 8), LOWS), [(lower, 7)], (0, 6, 0, 2))
        self.check(WIDE, ((0, FAR), LOWS), [(lower, FAR - 3)], None, (((0, 3), LOWS), (0, 0)))
        self.check(WIDE, ((0, FAR), LOWS), [(lower, FAR - 2)], (0, FAR - 3, 0, 2))

    def test_dry_in_a_later_pair(self):
        lower, back = [("lower", 2, 2)], [("raise", 2, 1)]
        self.check(TWO, ((10, 8), LOWS), [(lower, 3), ([], 5), (lower, 1)], (2, 0, 0, 2))
        self.check(TWO, ((10, 8), LOWS), [(lower, 3), (back, 3), (lower, 1), (lower, 1)], (3, 0, 0, 2))
        self.check(TWO, ((10, 8), LOWS), [(lower, 3), (back, 4), (lower, 9)], (2, 2, 0, 2))
        self.check(TWO, ((10, 8), LOWS), [(lower, 3), ([("lower", 1, 9), ("lower", 1, 1)], 1)], (1, 0, 1, 1))

    def test_the_deed_and_its_place_far_on(self):
        lower = [("raise", 1, 1), ("lower", 2, 9), ("raise", 2, 8)]
        many = 10 ** 16 - 11
        self.check(WIDE, ((0, 10 ** 16), LOWS), [([("raise", 1, 5)], 2), (lower, many + 1)], (1, many, 1, 2))
        self.check(WIDE, ((0, 10 ** 16), LOWS), [(lower, 10 ** 15), (lower, FAR)], (1, many - 10 ** 15, 1, 2))
        self.check(WIDE, ((0, 10 ** 16), LOWS), [(lower, many), (lower, 1)], (1, 0, 1, 2))
        self.check(WIDE, ((0, 10 ** 16), LOWS), [(lower, many)], None, (((many, 11), LOWS), (0, 0)))
        self.check(WIDE, ((10 ** 15, 3), LOWS), [([], FAR), ([("fill", 1), ("empty", 1)], FAR)], (1, 10 ** 15, 0, 1))

    def test_very_many_rounds(self):
        deeds = [("fill", 2), ("empty", 2), ("raise", 2, 9)]
        # 9 come each time, 7 of them go down by the lock, 2 stay until pound 2 is full.
        self.check(WIDE, ((0, 10), LOWS), [(deeds, FAR)], None, (((FAR, FAR), LOWS), (7 * FAR + 10, FAR + 10)))

    def test_the_first_pair_that_is_dry_goes(self):
        course = [([("lower", 1, 1)], 5), ([("lower", 2, 1)], 99), ([("lower", 1, 1)], 99)]
        self.check(TWO, ((10, 8), LOWS), course, (1, 6, 0, 2))

    def test_a_pair_of_none_counts(self):
        course = [([("lower", 2, 9)], 0), ([("lower", 2, 9)], 0), ([("lower", 2, 9)], 1)]
        self.check(TWO, ((10, 8), LOWS), course, (2, 0, 0, 2))

    def test_beside_a_plain_going(self):
        chance = random.Random(151)
        seen = {"let": 0, "first": 0, "later": 0, "further on": 0}
        for turn in range(900):
            stair, stand, deeds = lasting_case(chance)
            course = some_course(chance, stair, stand[1])
            course.insert(0, (deeds, chance.randint(0, 12)))
            dry, end = plain_course(stair, stand, course)
            self.assertEqual(course_told(stair, stand, course), dry)
            if turn % 10 == 0:
                self.check(stair, stand, course, dry, end)
            elif dry is None:
                self.assertEqual(course_end(stair, stand, course), end)
            seen["let" if dry is None else "first" if dry[0] == 0 else "later" if dry[1] < 2 else "further on"] += 1
        self.assertGreater(min(seen.values()), 15, seen)

    def test_one_round_beside_told(self):
        chance = random.Random(152)
        for turn in range(150):
            stair, stand, deeds = far_case(chance)
            ending = told(stair, stand, deeds)
            many = FAR if ending == ("for ever",) else ending[1]
            self.check(stair, stand, [(deeds, many)], None,
                       ((far_levels(stair, stand[0], deeds, many), stand[1]),
                        ran_over(stair, stand[0], deeds, many)))
            if ending != ("for ever",):
                self.check(stair, stand, [(deeds, many + 1)], (0,) + ending[1:])

    def test_a_pair_cut_in_two(self):
        chance = random.Random(153)
        later = 0
        for turn in range(150):
            stair, stand, deeds = far_case(chance) if turn % 2 else lasting_case(chance)
            many = chance.choice([FAR, chance.randint(0, FAR), chance.randint(0, 9)])
            cut = chance.choice([0, many, chance.randint(0, many)])
            whole, halves = [(deeds, many)], [(deeds, cut), (deeds, many - cut)]
            dry = course_told(stair, stand, whole)
            if dry is None:
                self.check(stair, stand, halves, None, course_end(stair, stand, whole))
            elif dry[1] < cut:
                self.check(stair, stand, halves, dry)
            else:
                later += 1
                self.check(stair, stand, halves, (1, dry[1] - cut) + dry[2:])
        self.assertGreater(later, 5)

    def test_two_rounds_as_one_of_half_as_many(self):
        chance = random.Random(154)
        seen = {True: 0, False: 0}
        for turn in range(150):
            stair, stand, deeds = far_case(chance) if turn % 2 else lasting_case(chance)
            many = chance.choice([10 ** 19, chance.randint(0, 10 ** 19), chance.randint(0, 9)])
            single, double = [(deeds, 2 * many)], [(deeds + deeds, many)]
            dry = course_told(stair, stand, single)
            seen[dry is None] += 1
            if dry is None:
                self.check(stair, stand, double, None, course_end(stair, stand, single))
            else:
                rounds, half = divmod(dry[1], 2)
                self.check(stair, stand, double, (0, rounds, dry[2] + half * len(deeds), dry[3]))
        self.assertGreater(min(seen.values()), 20, seen)

    def test_near_ones_beside_gone(self):
        chance = random.Random(155)
        for turn in range(150):
            stair, stand, deeds = lasting_case(chance)
            course = some_course(chance, stair, stand[1], 4)
            if course_told(stair, stand, course) is None:
                every = [deed for round_, many in course for deed in round_ * many]
                self.assertEqual(course_end(stair, stand, course), gone(stair, stand, every))

    def test_what_was_told_may_be_handed_in_again(self):
        stand, ran = course_end(WIDE, ((0, 10), LOWS), [([("raise", 2, 9)], 7)])
        self.assertEqual(course_end(WIDE, stand, []), (stand, (0, 0)))

    def test_nothing_handed_in_is_kept(self):
        handed = as_lists(((3, 4), LOWS))
        end = course_end(TWO, handed, [])
        handed[0][0] = 9
        handed[1][0] = "high"
        self.assertEqual(end, (((3, 4), LOWS), (0, 0)))
