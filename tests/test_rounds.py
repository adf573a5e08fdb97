"""rounds.py: [6]."""

import copy
import itertools
import random
import unittest

from liftwater.rounds import fits, is_round, sums_of
from tests.plain import more_of, some_case, some_stair
from tests.things import STAIR, STAND, any_things, as_lists, with_one_otherwise

LOADS = [("raise", 1, 5), ("lower", 3, 10 ** 30)]


class IsRoundTest(unittest.TestCase):
    def both(self, thing, so):
        with self.subTest(repr(thing)):
            ahead = copy.deepcopy(thing)
            self.assertIs(is_round(STAIR, thing), so)
            self.assertIs(is_round(as_lists(STAIR), thing), so)
            self.assertEqual(repr(thing), repr(ahead))

    def test_right_ones(self):
        self.both([], True)
        self.both(LOADS, True)
        self.both([("fill", 1), ("empty", 1)], True)
        self.both([("fill", 1), ("fill", 2), ("empty", 1), ("raise", 2, 1), ("empty", 2)], True)
        self.both([("fill", 3), ("empty", 3)] * 30, True)

    def test_it_may_begin_with_empty(self):
        self.both([("empty", 1), ("fill", 1)], True)
        self.both([("empty", 1), ("fill", 1), ("empty", 1), ("fill", 1)], True)
        self.both([("empty", 1), ("fill", 2), ("fill", 1), ("empty", 2)], True)

    def test_not_by_turns(self):
        self.both([("fill", 1), ("fill", 1), ("empty", 1), ("empty", 1)], False)
        self.both([("fill", 1), ("empty", 1), ("empty", 1), ("fill", 1)], False)
        self.both([("empty", 2), ("empty", 2), ("fill", 2), ("fill", 2)], False)
        self.both([("fill", 1), ("fill", 2), ("empty", 2), ("fill", 1), ("empty", 1), ("empty", 1)], False)

    def test_more_of_one_than_of_the_other(self):
        self.both([("fill", 1)], False)
        self.both([("empty", 3)], False)
        self.both([("fill", 1), ("empty", 1), ("fill", 1)], False)
        self.both([("empty", 1), ("fill", 1), ("empty", 1)], False)
        self.both([("fill", 1), ("empty", 2)], False)
        self.both([("fill", 1), ("empty", 1), ("fill", 3)], False)

    def test_all_turns_of_one_lock(self):
        for many in range(7):
            for words in itertools.product(["fill", "empty"], repeat=many):
                turns = "".join(word[0] for word in words)
                so = turns in ("", "fe", "ef", "fefe", "efef", "fefefe", "efefef")
                self.both([(word, 2) for word in words], so)

    def test_a_tuple_in_the_lists_place(self):
        self.both((), False)
        self.both((("fill", 1), ("empty", 1)), False)
        self.both(tuple(LOADS), False)

    def test_a_deed_as_a_list(self):
        self.both([["fill", 1], ["empty", 1]], False)
        self.both([("fill", 1), ["empty", 1]], False)
        self.both([["raise", 1, 1]], False)

    def test_a_deed_that_is_none(self):
        others = (True, False, None, "1", "", (1,), [1], 0, 4, -1)
        for deeds in with_one_otherwise((("fill", 1), ("raise", 3, 2), ("empty", 1)), others):
            if deeds[1] != ("raise", 3, 4):
                self.both(list(deeds), False)
        self.both([("fill", 4), ("empty", 4)], False)
        self.both([("fill", 0), ("empty", 0)], False)
        self.both([("turn", 1)], False)
        self.both([("raise", 1, 0)], False)
        self.both([[]], False)
        self.both([()], False)

    def test_the_stair_tells_which_locks_there_are(self):
        deeds = [("fill", 3), ("empty", 3)]
        self.assertIs(is_round(STAIR, deeds), True)
        self.assertIs(is_round(STAIR[:2], deeds), False)

    def test_anything(self):
        right = [[]] + [[deed] for deed in (("raise", 1, 1), ("raise", 1, 7), ("raise", 1, 10 ** 30))]
        for thing in any_things() + [[part] for part in any_things()] + [(part,) for part in any_things()]:
            self.both(thing, repr(thing) in [repr(one) for one in right])

    def test_many(self):
        chance = random.Random(6)
        for turn in range(300):
            stair, stand, deeds = some_case(chance)
            self.assertIs(is_round(stair, deeds), True)
            turns = [at for at, deed in enumerate(deeds) if len(deed) == 2]
            for at in turns:
                self.assertIs(is_round(stair, deeds[:at] + deeds[at + 1:]), False)
                self.assertIs(is_round(stair, deeds[:at] + [deeds[at]] + deeds[at:]), False)


class FitsTest(unittest.TestCase):
    def both(self, stair, stand, deeds, so):
        for handed in ((stair, stand, deeds), (as_lists(stair), as_lists(stand), as_lists(deeds)),
                       (stair, as_lists(stand), tuple(deeds))):
            with self.subTest(repr(handed)):
                ahead = copy.deepcopy(handed)
                self.assertIs(fits(*handed), so)
                self.assertEqual(repr(handed), repr(ahead))

    def test_each_chamber_low_and_high(self):
        for chambers in itertools.product(["low", "high"], repeat=3):
            stand = (STAND[0], chambers)
            for firsts in itertools.product(["fill", "empty", None], repeat=3):
                deeds = [("raise", 1, 1)]
                for lock, first in enumerate(firsts, 1):
                    if first:
                        deeds += [(first, lock), ("fill" if first == "empty" else "empty", lock)]
                let = {"low": "fill", "high": "empty"}
                so = all(first in (None, let[chamber]) for first, chamber in zip(firsts, chambers))
                self.both(STAIR, stand, deeds, so)

    def test_locks_that_are_not_turned(self):
        for chambers in itertools.product(["low", "high"], repeat=3):
            self.both(STAIR, (STAND[0], chambers), [], True)
            self.both(STAIR, (STAND[0], chambers), LOADS, True)

    def test_only_the_first_turn_counts(self):
        deeds = [("fill", 1), ("empty", 1), ("fill", 1), ("empty", 1)]
        self.both(STAIR, (STAND[0], ("low", "high", "high")), deeds, True)
        self.both(STAIR, (STAND[0], ("high", "low", "low")), deeds, False)

    def test_dryness_is_not_looked_at(self):
        self.both(((5, 5, 9),), ((5,), ("low",)), [("fill", 1), ("empty", 1), ("lower", 1, 9)], True)


class SumsOfTest(unittest.TestCase):
    THREE = ((1, 10, 4), (2, 8, 3), (3, 6, 2))

    def told(self, deeds, sums):
        for handed in ((self.THREE, deeds), (as_lists(self.THREE), as_lists(deeds)), (self.THREE, tuple(deeds))):
            with self.subTest(repr(handed)):
                ahead = copy.deepcopy(handed)
                self.assertEqual(repr(sums_of(*handed)), repr(sums))
                self.assertEqual(repr(handed), repr(ahead))

    def test_no_deeds(self):
        self.told([], (0, 0, 0))

    def test_raises_and_lowers(self):
        self.told([("raise", 1, 5)], (5, 0, 0))
        self.told([("raise", 2, 5)], (5, 5, 0))
        self.told([("raise", 3, 5)], (5, 5, 5))
        self.told([("lower", 1, 5)], (-5, 0, 0))
        self.told([("lower", 3, 10 ** 30)], (-10 ** 30, -10 ** 30, -10 ** 30))
        self.told([("raise", 3, 7), ("lower", 2, 9)], (-2, -2, 7))

    def test_fills_without_their_empties(self):
        self.told([("fill", 1)], (-4, 0, 0))
        self.told([("fill", 2)], (-3, -3, 0))
        self.told([("fill", 3)], (-2, -2, -2))
        self.told([("fill", 3), ("fill", 3)], (-4, -4, -4))

    def test_empties_without_their_fills(self):
        self.told([("empty", 1)], (0, 0, 0))
        self.told([("empty", 2)], (3, 0, 0))
        self.told([("empty", 3)], (2, 2, 0))

    def test_both_turns_take_a_lockful_from_all_above(self):
        self.told([("fill", 1), ("empty", 1)], (-4, 0, 0))
        self.told([("empty", 2), ("fill", 2)], (0, -3, 0))
        self.told([("fill", 3), ("empty", 3)], (0, 0, -2))

    def test_a_round_adds_what_is_raised_less_what_is_lowered_and_emptied(self):
        chance = random.Random(61)
        for turn in range(300):
            stair, stand, deeds = some_case(chance)
            sums = []
            for lock in range(1, len(stair) + 1):
                loads = sum(more_of(stair, deed)[1] for deed in deeds if len(deed) == 3 and deed[1] >= lock)
                sums.append(loads - stair[lock - 1][2] * deeds.count(("empty", lock)))
            self.assertEqual(sums_of(stair, deeds), tuple(sums))

    def test_any_deeds_by_their_parts(self):
        chance = random.Random(62)
        for turn in range(300):
            stair = some_stair(chance)
            words = [chance.choice(["fill", "empty", "raise", "lower"]) for step in range(9)]
            deeds = [(word, chance.randint(1, len(stair))) + ((4,) if word in ("raise", "lower") else ())
                     for word in words]
            levels = [0] * len(stair)
            for pound, more in [more_of(stair, deed) for deed in deeds]:
                if pound > 0:
                    levels[pound - 1] += more
            self.assertEqual(sums_of(stair, deeds), tuple(sum(levels[at:]) for at in range(len(stair))))
