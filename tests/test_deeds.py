"""deeds.py: [5]."""

import copy
import random
import unittest

from liftwater.deeds import done, fault_of, gone, is_deed
from liftwater.errors import Dry, Shut
from liftwater.stairs import brimful, is_stand
from tests.things import STAIR, STAND, any_things, as_lists, with_one_otherwise

# Pounds to try deeds in: their leasts are 1, 2 and 3, so that no least is mistaken for another.
THREE = ((1, 10, 4), (2, 8, 3), (3, 6, 2))
LOWS = ("low", "low", "low")
HIGHS = ("high", "high", "high")


class IsDeedTest(unittest.TestCase):
    def both(self, thing, so):
        with self.subTest(repr(thing)):
            self.assertIs(is_deed(STAIR, thing), so)
            self.assertIs(is_deed(as_lists(STAIR), thing), so)

    def test_right_ones(self):
        for place in (1, 2, 3):
            self.both(("fill", place), True)
            self.both(("empty", place), True)
            self.both(("raise", place, 1), True)
            self.both(("lower", place, 10 ** 30), True)

    def test_places_beyond(self):
        for place in (0, -1, 4):
            self.both(("fill", place), False)
            self.both(("empty", place), False)
            self.both(("raise", place, 1), False)
            self.both(("lower", place, 1), False)

    def test_many_below_one(self):
        for many in (0, -1):
            self.both(("raise", 1, many), False)
            self.both(("lower", 1, many), False)

    def test_unknown_words(self):
        for word in ("", "Fill", "fills", "turn", "low", "high", "shut", "dry", "up", "rain", None, 1, True, (), []):
            self.both((word, 1), False)
            self.both((word, 1, 1), False)

    def test_one_thing_of_another_kind(self):
        for deed in (("fill", 1), ("empty", 1), ("raise", 1, 1), ("lower", 1, 1)):
            for thing in with_one_otherwise(deed, (True, False, None, "1", "", (1,), [1], ("fill",))):
                self.both(thing, False)

    def test_too_long_too_short_bare(self):
        self.both((), False)
        for word in ("fill", "empty"):
            self.both((word,), False)
            self.both((word, 1, 1), False)
            self.both((word, 1, None), False)
        for word in ("raise", "lower"):
            self.both((word,), False)
            self.both((word, 1), False)
            self.both((word, 1, 1, 1), False)

    def test_lists_for_tuples(self):
        for deed in (("fill", 1), ("empty", 1), ("raise", 1, 1), ("lower", 1, 1)):
            self.both(list(deed), False)
            self.both((deed,), False)

    def test_a_text_is_no_deed(self):
        self.both("fill", False)
        self.both("fill 1", False)

    def test_anything(self):
        right = [("fill", 1), ("raise", 1, 1), ("raise", 1, 7), ("raise", 1, 10 ** 30)]
        for thing in any_things():
            ahead = copy.deepcopy(thing)
            self.both(thing, repr(thing) in [repr(one) for one in right])
            self.assertEqual(repr(thing), repr(ahead))


class DeedCase(unittest.TestCase):
    """Asks each thing with tuples and with lists, and looks whether what was handed in stays."""

    def let(self, stair, stand, deed, behind, ran):
        for handed in ((stair, stand, deed), (as_lists(stair), as_lists(stand), as_lists(deed))):
            with self.subTest(repr(handed)):
                ahead = copy.deepcopy(handed)
                self.assertIs(fault_of(*handed), None)
                self.assertEqual(repr(done(*handed)), repr((behind, ran)))
                self.assertEqual(repr(done(*handed)), repr((behind, ran)))
                self.assertEqual(repr(handed), repr(ahead))

    def barred(self, stair, stand, deed, fault):
        refusal = {"shut": Shut, "dry": Dry}[fault[0]]
        for handed in ((stair, stand, deed), (as_lists(stair), as_lists(stand), as_lists(deed))):
            with self.subTest(repr(handed)):
                ahead = copy.deepcopy(handed)
                self.assertEqual(repr(fault_of(*handed)), repr(fault))
                with self.assertRaises(refusal) as caught:
                    done(*handed)
                self.assertEqual(caught.exception.what, fault[1])
                self.assertEqual(repr(handed), repr(ahead))


class TurnsTest(DeedCase):
    def test_fill(self):
        self.let(THREE, ((10, 8, 6), LOWS), ("fill", 1), ((6, 8, 6), ("high", "low", "low")), (0, 0, 0))
        self.let(THREE, ((10, 8, 6), LOWS), ("fill", 2), ((10, 5, 6), ("low", "high", "low")), (0, 0, 0))
        self.let(THREE, ((10, 8, 6), LOWS), ("fill", 3), ((10, 8, 4), ("low", "low", "high")), (0, 0, 0))

    def test_fill_shut(self):
        for lock in (1, 2, 3):
            chambers = tuple("high" if at == lock else "low" for at in (1, 2, 3))
            self.barred(THREE, ((10, 8, 6), chambers), ("fill", lock), ("shut", lock))

    def test_fill_down_to_the_least_and_one_below(self):
        self.let(THREE, ((5, 8, 6), LOWS), ("fill", 1), ((1, 8, 6), ("high", "low", "low")), (0, 0, 0))
        self.barred(THREE, ((4, 8, 6), LOWS), ("fill", 1), ("dry", 1))
        self.let(THREE, ((10, 5, 6), LOWS), ("fill", 2), ((10, 2, 6), ("low", "high", "low")), (0, 0, 0))
        self.barred(THREE, ((10, 4, 6), LOWS), ("fill", 2), ("dry", 2))
        self.let(THREE, ((10, 8, 5), LOWS), ("fill", 3), ((10, 8, 3), ("low", "low", "high")), (0, 0, 0))
        self.barred(THREE, ((10, 8, 4), LOWS), ("fill", 3), ("dry", 3))

    def test_both_shut_and_dry_is_shut(self):
        self.barred(THREE, ((1, 2, 3), HIGHS), ("fill", 1), ("shut", 1))
        self.barred(THREE, ((1, 2, 3), HIGHS), ("fill", 3), ("shut", 3))

    def test_empty(self):
        self.let(THREE, ((5, 5, 5), HIGHS), ("empty", 2), ((8, 5, 5), ("high", "low", "high")), (0, 0, 0))
        self.let(THREE, ((5, 5, 5), HIGHS), ("empty", 3), ((5, 7, 5), ("high", "high", "low")), (0, 0, 0))

    def test_empty_lock_one_into_the_sea(self):
        self.let(THREE, ((5, 5, 5), HIGHS), ("empty", 1), ((5, 5, 5), ("low", "high", "high")), (0, 0, 0))
        self.let(THREE, ((10, 8, 6), HIGHS), ("empty", 1), ((10, 8, 6), ("low", "high", "high")), (0, 0, 0))
        self.let(((0, 0, 9),), ((0,), ("high",)), ("empty", 1), ((0,), ("low",)), (0,))

    def test_empty_into_a_full_pound_runs_over(self):
        self.let(THREE, ((10, 8, 6), HIGHS), ("empty", 2), ((10, 8, 6), ("high", "low", "high")), (3, 0, 0))
        self.let(THREE, ((9, 8, 6), HIGHS), ("empty", 3), ((10, 8, 6), ("high", "high", "low")), (1, 2, 0))
        self.let(THREE, ((7, 8, 6), HIGHS), ("empty", 2), ((10, 8, 6), ("high", "low", "high")), (0, 0, 0))

    def test_empty_shut(self):
        for lock in (1, 2, 3):
            chambers = tuple("low" if at == lock else "high" for at in (1, 2, 3))
            self.barred(THREE, ((10, 8, 6), chambers), ("empty", lock), ("shut", lock))

    def test_empty_at_the_leasts_is_let(self):
        self.let(THREE, ((1, 2, 3), HIGHS), ("empty", 1), ((1, 2, 3), ("low", "high", "high")), (0, 0, 0))


class LoadsTest(DeedCase):
    def test_raise(self):
        self.let(THREE, ((5, 5, 5), LOWS), ("raise", 2, 2), ((5, 7, 5), LOWS), (0, 0, 0))
        self.let(THREE, ((5, 5, 5), HIGHS), ("raise", 3, 1), ((5, 5, 6), HIGHS), (0, 0, 0))

    def test_raise_just_to_the_most_and_one_above(self):
        self.let(THREE, ((5, 5, 5), LOWS), ("raise", 2, 3), ((5, 8, 5), LOWS), (0, 0, 0))
        self.let(THREE, ((5, 5, 5), LOWS), ("raise", 2, 4), ((6, 8, 5), LOWS), (0, 1, 0))

    def test_raise_runs_over_down_to_the_sea(self):
        self.let(THREE, ((8, 7, 5), LOWS), ("raise", 3, 2), ((8, 8, 6), LOWS), (0, 0, 1))
        self.let(THREE, ((8, 7, 5), LOWS), ("raise", 3, 3), ((9, 8, 6), LOWS), (0, 1, 2))
        self.let(THREE, ((8, 7, 5), LOWS), ("raise", 3, 100), ((10, 8, 6), LOWS), (96, 98, 99))
        self.let(THREE, ((8, 7, 5), LOWS), ("raise", 1, 10 ** 20), ((10, 7, 5), LOWS), (10 ** 20 - 2, 0, 0))

    def test_lower(self):
        self.let(THREE, ((10, 8, 6), LOWS), ("lower", 2, 1), ((10, 7, 6), LOWS), (0, 0, 0))
        self.let(THREE, ((10, 8, 6), HIGHS), ("lower", 3, 2), ((10, 8, 4), HIGHS), (0, 0, 0))

    def test_lower_down_to_the_least_and_one_below(self):
        for pound, (least, most, size) in enumerate(THREE, 1):
            levels = [10, 8, 6]
            levels[pound - 1] = least
            self.let(THREE, ((10, 8, 6), LOWS), ("lower", pound, most - least), (tuple(levels), LOWS), (0, 0, 0))
            self.barred(THREE, ((10, 8, 6), LOWS), ("lower", pound, most - least + 1), ("dry", pound))

    def test_least_nought(self):
        self.let(((0, 3, 1),), ((3,), ("low",)), ("lower", 1, 3), ((0,), ("low",)), (0,))
        self.barred(((0, 3, 1),), ((3,), ("low",)), ("lower", 1, 4), ("dry", 1))

    def test_loads_look_at_no_chamber(self):
        for chambers in (LOWS, HIGHS):
            self.let(THREE, ((5, 5, 5), chambers), ("raise", 1, 1), ((6, 5, 5), chambers), (0, 0, 0))
            self.let(THREE, ((5, 5, 5), chambers), ("lower", 1, 1), ((4, 5, 5), chambers), (0, 0, 0))


class GoneTest(unittest.TestCase):
    DEEDS = [("fill", 2), ("raise", 1, 4), ("empty", 2), ("lower", 3, 1), ("raise", 3, 9)]

    def test_no_deeds(self):
        for deeds in ([], ()):
            for stand in (STAND, as_lists(STAND)):
                self.assertEqual(repr(gone(STAIR, stand, deeds)), repr((STAND, (0, 0, 0))))

    def test_several_ran_together(self):
        stand = ((9, 8, 6), LOWS)
        # 3 of the raise at pound 1, all 3 of the emptying, and 5 of the 8 that ran out of pound 3.
        behind = (((10, 8, 6), LOWS), (11, 5, 8))
        self.assertEqual(repr(gone(THREE, stand, self.DEEDS)), repr(behind))

    def test_refused_as_the_first_that_is(self):
        stand = ((10, 8, 6), LOWS)
        for deeds, refusal, what in (
            ([("fill", 1), ("empty", 2), ("lower", 3, 9)], Shut, 2),
            ([("fill", 1), ("lower", 3, 9), ("empty", 2)], Dry, 3),
            ([("fill", 3), ("empty", 3), ("fill", 3), ("empty", 3), ("fill", 3)], Dry, 3),
            ([("fill", 2), ("fill", 2)], Shut, 2),
        ):
            handed = (THREE, stand, deeds)
            ahead = copy.deepcopy(handed)
            with self.subTest(deeds):
                with self.assertRaises(refusal) as caught:
                    gone(*handed)
                self.assertEqual(caught.exception.what, what)
                self.assertEqual(repr(handed), repr(ahead))

    def test_lists_for_tuples_the_same_and_all_stays(self):
        stand = ((9, 8, 6), LOWS)
        told = gone(THREE, stand, self.DEEDS)
        for deeds in (self.DEEDS, tuple(self.DEEDS), as_lists(self.DEEDS), tuple(as_lists(self.DEEDS))):
            handed = (as_lists(THREE), as_lists(stand), deeds)
            ahead = copy.deepcopy(handed)
            self.assertEqual(repr(gone(*handed)), repr(told))
            self.assertEqual(repr(handed), repr(ahead))

    def test_nothing_handed_in_is_kept(self):
        handed = as_lists(STAND)
        told = gone(STAIR, handed, [])
        handed[0][0] = 2
        handed[1][0] = "high"
        self.assertEqual(told, (STAND, (0, 0, 0)))

    def test_what_was_told_may_be_handed_in_again(self):
        stand, ran = gone(THREE, brimful(THREE), [("raise", 3, 10 ** 30)])
        self.assertEqual(ran, (10 ** 30, 10 ** 30, 10 ** 30))
        self.assertEqual(gone(THREE, stand, []), (stand, (0, 0, 0)))


def some_stair(chance):
    """A stair of one to six pounds, narrow ones, so that deeds often run over or are dry."""
    pounds = []
    for at in range(chance.randint(1, 6)):
        least = chance.randint(0, 3)
        pounds.append((least, least + chance.randint(0, 5), chance.randint(1, 4)))
    return tuple(pounds)


def some_stand(chance, stair):
    levels = tuple(chance.randint(least, most) for least, most, size in stair)
    return levels, tuple(chance.choice(["low", "high"]) for pound in stair)


def some_deed(chance, stair):
    word = chance.choice(["fill", "empty", "raise", "lower"])
    place = chance.randint(1, len(stair))
    if word in ("fill", "empty"):
        return word, place
    return word, place, chance.randint(1, 9)


def weight_above(stair, stand, lock):
    """Levels from a lock's pound on, and the HIGH chambers from that lock on."""
    levels, chambers = stand
    held = [pound[2] for pound, chamber in zip(stair, chambers) if chamber == "high"]
    below = [pound[2] for pound, chamber in zip(stair[:lock - 1], chambers) if chamber == "high"]
    return sum(levels[lock - 1:]) + sum(held) - sum(below)


def came_above(stair, deed, lock):
    """How much more a deed brings above a lock than it takes, running over left aside."""
    if deed[0] == "empty":
        return -stair[lock - 1][2] if deed[1] == lock else 0
    if deed[0] == "fill" or deed[1] < lock:
        return 0
    return deed[2] if deed[0] == "raise" else -deed[2]


class ManyDeedsTest(unittest.TestCase):
    """What holds of all deeds, tried on many that a fixed seed brings."""

    def setUp(self):
        self.chance = random.Random(20)

    def some(self):
        stair = some_stair(self.chance)
        return stair, some_stand(self.chance, stair), some_deed(self.chance, stair)

    def test_what_goes_down_is_told_to_the_last_drop(self):
        let = 0
        for turn in range(3000):
            stair, stand, deed = self.some()
            self.assertIs(is_deed(stair, deed), True)
            if fault_of(stair, stand, deed) is not None:
                continue
            let += 1
            behind, ran = done(stair, stand, deed)
            self.assertIs(is_stand(stair, behind), True)
            for lock in range(1, len(stair) + 1):
                more = weight_above(stair, behind, lock) - weight_above(stair, stand, lock)
                self.assertEqual(more, came_above(stair, deed, lock) - ran[lock - 1])
                if ran[lock - 1] > 0:
                    self.assertEqual(behind[0][lock - 1], stair[lock - 1][1])
        self.assertGreater(let, 1000)

    def test_a_deed_is_refused_as_its_fault_tells(self):
        seen = {"shut": 0, "dry": 0}
        for turn in range(3000):
            stair, stand, deed = self.some()
            fault = fault_of(stair, stand, deed)
            if fault is None:
                continue
            seen[fault[0]] += 1
            self.assertEqual(fault[1], deed[1])
            with self.assertRaises({"shut": Shut, "dry": Dry}[fault[0]]) as caught:
                done(stair, stand, deed)
            self.assertEqual(caught.exception.what, fault[1])
        self.assertGreater(min(seen.values()), 100)

    def test_gone_is_done_one_behind_the_other(self):
        for turn in range(500):
            stair = some_stair(self.chance)
            first = stand = some_stand(self.chance, stair)
            deeds, together = [], [0] * len(stair)
            for step in range(20):
                deed = some_deed(self.chance, stair)
                if fault_of(stair, stand, deed) is None:
                    deeds.append(deed)
                    stand, ran = done(stair, stand, deed)
                    together = [one + other for one, other in zip(together, ran)]
            self.assertEqual(gone(stair, first, deeds), (stand, tuple(together)))
