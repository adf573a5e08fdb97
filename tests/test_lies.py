"""lies.py: [18]."""

import copy
import functools
import random
import unittest

from liftwater.house import House
from liftwater.lies import above, bare_turns, emptied, false_in, worth
from tests.boats import PlainHouse, parts_of_house, some_trip
from tests.plain import some_stair, some_stand
from tests.things import as_lists

FAR = 10 ** 20
THREE = ((1, 10, 4), (2, 8, 3), (3, 6, 2))
LEVELS = (10, 200, 3000)
HEAPS = (7, 40000, 500000, 6000000)
LOWS = ("low", "low", "low")
HIGHS = ("high", "high", "high")


def came_by(trip, ran, n):
    """For each lock how much more came above it than went, but by emptyings."""
    came = []
    for lock in range(1, n + 1):
        more = -ran[lock - 1]
        if trip[0] == "rain" and trip[1] >= lock:
            more += trip[2]
        if trip[0] == "draw" and trip[1] >= lock:
            more -= trip[2]
        if trip[0] == "carry":
            more += trip[3] * ((trip[2] >= lock) - (trip[1] >= lock))
        came.append(more)
    return came


def some_going(chance, steps=25):
    """(stair, ahead, behind, came, book) of a house and some trips that it let."""
    parts = parts_of_house(chance, goods=20)
    house, plain = House(*parts), PlainHouse(*parts)
    n = len(parts[0])
    came, book = [0] * n, [0] * n
    for step in range(chance.randint(0, steps)):
        trip = some_trip(chance, plain)
        chambers = list(plain.chambers)
        told = plain.do(trip)
        if told[0] == "ran":
            house.do(trip)
            came = [one + other for one, other in zip(came, came_by(trip, told[1], n))]
            book = [many + (was == "high" and now == "low")
                    for many, was, now in zip(book, chambers, plain.chambers)]
    return parts[0], (parts[1], parts[2]), (house.stand(), house.heaps()), tuple(came), tuple(book)


class LiesCase(unittest.TestCase):
    def told_of(self, ask, *handed):
        """The answer, the same with lists for tuples; what is handed in stays."""
        for form in (handed, as_lists(handed)):
            ahead = copy.deepcopy(form)
            self.assertEqual(repr(ask(*form)), repr(ask(*handed)))
            self.assertEqual(repr(form), repr(ahead))
        return ask(*handed)


class AboveTest(LiesCase):
    def test_by_hand(self):
        for chambers, held in ((LOWS, (0, 0, 0)), (HIGHS, (9, 5, 2)), (("high", "low", "low"), (4, 0, 0)),
                               (("low", "high", "low"), (3, 3, 0)), (("low", "low", "high"), (2, 2, 2))):
            for lock, rest in ((1, 6543210), (2, 6503200), (3, 6003000)):
                self.assertEqual(self.told_of(above, THREE, (LEVELS, chambers), HEAPS, lock), rest + held[lock - 1])

    def test_the_seas_quay_never_counts(self):
        for lock in (1, 2, 3):
            self.assertEqual(above(THREE, (LEVELS, LOWS), HEAPS, lock),
                             above(THREE, (LEVELS, LOWS), (FAR,) + HEAPS[1:], lock))

    def test_one_pound(self):
        self.assertEqual(self.told_of(above, ((0, 5, 2),), ((4,), ("high",)), (9, 1), 1), 7)
        self.assertEqual(self.told_of(above, ((0, 5, FAR),), ((4,), ("high",)), (9, 1), 1), 5 + FAR)

    def test_what_trips_change(self):
        chance = random.Random(181)
        for turn in range(300):
            parts = parts_of_house(chance)
            stair, plain = parts[0], PlainHouse(*parts)
            for step in range(10):
                (stand, heaps), trip = plain.shown()[:2], some_trip(chance, plain)
                told = plain.do(trip)
                if told[0] != "ran":
                    continue
                came = came_by(trip, told[1], len(stair))
                for lock in range(1, len(stair) + 1):
                    turned = stand[1][lock - 1] == "high" and plain.chambers[lock - 1] == "low"
                    self.assertEqual(
                        above(stair, *plain.shown()[:2], lock),
                        above(stair, stand, heaps, lock) + came[lock - 1] - turned * stair[lock - 1][2])


class EmptiedTest(LiesCase):
    ahead = ((10, 8, 6), ("high", "low", "high")), (1, 2, 3, 4)

    def test_nothing_done(self):
        self.assertEqual(self.told_of(emptied, THREE, self.ahead, self.ahead, (0, 0, 0)), [0, 0, 0])
        self.assertEqual(self.told_of(false_in, THREE, self.ahead, self.ahead, (0, 0, 0), (0, 0, 0)), [])

    def test_one_emptying_of_each_lock(self):
        for lock, size in ((1, 4), (2, 3), (3, 2)):
            # Of what went out of all that's above a lock, none was lost above.
            came = tuple(size if at == lock else 0 for at in (1, 2, 3))
            right = [1 if at == lock else 0 for at in (1, 2, 3)]
            self.assertEqual(self.told_of(emptied, THREE, self.ahead, self.ahead, came), right)

    def test_no_whole_number_and_below_nought(self):
        for came, right in (((1, 0, 0), [None, 0, 0]), ((0, 1, 2), [0, None, 1]), ((0, 2, 1), [0, None, None]),
                            ((-4, 0, 0), [None, 0, 0]), ((0, -3, -2), [0, None, None]), ((8, 9, 10), [2, 3, 5]),
                            ((-1, -1, -1), [None, None, None]), ((4 * FAR, 3 * FAR, 2 * FAR), [FAR, FAR, FAR]),
                            ((4 * FAR + 1, 3 * FAR, 2 * FAR - 1), [None, FAR, None])):
            self.assertEqual(self.told_of(emptied, THREE, self.ahead, self.ahead, came), right)

    def test_lockfuls_of_one(self):
        ahead = ((5,), ("low",)), (0, 0)
        for came, right in ((-2, None), (-1, None), (0, 0), (1, 1), (FAR, FAR)):
            self.assertEqual(self.told_of(emptied, ((0, 9, 1),), ahead, ahead, (came,)), [right])

    def test_a_chamber_low_behind(self):
        behind = ((10, 8, 6), ("low", "low", "high")), (1, 2, 3, 4)
        self.assertEqual(self.told_of(emptied, THREE, self.ahead, behind, (0, 0, 0)), [1, 0, 0])
        self.assertEqual(self.told_of(emptied, THREE, behind, self.ahead, (0, 0, 0)), [None, 0, 0])
        behind = ((10, 8, 6), ("high", "low", "low")), (1, 2, 3, 4)
        self.assertEqual(self.told_of(emptied, THREE, self.ahead, behind, (0, 0, 0)), [None, None, 1])

    def test_beside_a_plain_book(self):
        chance = random.Random(182)
        most = 0
        for turn in range(400):
            stair, ahead, behind, came, book = some_going(chance, 80)
            self.assertEqual(self.told_of(emptied, stair, ahead, behind, came), list(book))
            self.assertEqual(self.told_of(false_in, stair, ahead, behind, came, book), [])
            most = max(most, *book)
        self.assertGreater(most, 3)

    def test_false_books(self):
        chance = random.Random(183)
        several = 0
        for turn in range(300):
            stair, ahead, behind, came, book = some_going(chance)
            wrong = sorted(chance.sample(range(1, len(stair) + 1), chance.randint(0, len(stair))))
            told = list(book)
            for lock in wrong:
                told[lock - 1] += chance.choice([1, 2, FAR, -1])
            self.assertEqual(self.told_of(false_in, stair, ahead, behind, came, tuple(told)), wrong)
            several += len(wrong) > 1
        self.assertGreater(several, 50)

    def test_a_lock_for_which_there_is_no_number(self):
        for number in (0, 1, 5, None, FAR):
            self.assertEqual(self.told_of(false_in, THREE, self.ahead, self.ahead, (1, 0, -2), (number, 0, number)),
                             [1, 3])
            self.assertEqual(self.told_of(false_in, THREE, self.ahead, self.ahead, (1, 3, -2), (number, 0, number)),
                             [1, 2, 3])

    def test_what_came_told_wrongly_is_seen(self):
        chance = random.Random(184)
        for turn in range(100):
            stair, ahead, behind, came, book = some_going(chance)
            lock = chance.randint(1, len(stair))
            size = stair[lock - 1][2]
            more = tuple(part + size * (at == lock) for at, part in enumerate(came, 1))
            self.assertEqual(false_in(stair, ahead, behind, more, book), [lock])
            self.assertEqual(emptied(stair, ahead, behind, more)[lock - 1], book[lock - 1] + 1)


class WorthTest(LiesCase):
    def test_by_hand(self):
        self.assertEqual(self.told_of(worth, (0, 1, 10, 100), THREE, ((1, 2, 3), LOWS), (0, 0, 0, 0)), 321)
        self.assertEqual(self.told_of(worth, (1, 10, 100, 1000), THREE, ((0, 0, 0), LOWS), (4, 3, 2, 1)), 1234)
        self.assertEqual(self.told_of(worth, (1, 10, 100, 1000), THREE, ((0, 0, 0), HIGHS), (0, 0, 0, 0)), 2340)
        for lock, part in ((1, 40), (2, 300), (3, 2000)):
            chambers = tuple("high" if at == lock else "low" for at in (1, 2, 3))
            self.assertEqual(self.told_of(worth, (1, 10, 100, 1000), THREE, ((0, 0, 0), chambers), (0, 0, 0, 0)), part)
        self.assertEqual(self.told_of(worth, (-5, 2), ((0, 9, 3),), ((4,), ("high",)), (7, 1)), -35 + 8 + 6 + 2)

    def test_all_heights_so_much_more(self):
        chance = random.Random(185)
        for turn in range(200):
            stair = some_stair(chance)
            stand = some_stand(chance, stair)
            heaps = tuple(chance.randint(0, 9) for at in range(len(stair) + 1))
            heights = tuple(sorted(chance.sample(range(-50, 50), len(stair) + 1)))
            more = chance.choice([-FAR, -3, 1, 7, FAR])
            held = sum(pound[2] for pound, chamber in zip(stair, stand[1]) if chamber == "high")
            raised = tuple(height + more for height in heights)
            self.assertEqual(self.told_of(worth, raised, stair, stand, heaps),
                             worth(heights, stair, stand, heaps) + more * (sum(stand[0]) + sum(heaps) + held))

    def test_worth_by_all_that_is_above_each_lock(self):
        # All goods and water, and for each lock what is above it, times how much higher it is there.
        chance = random.Random(186)
        for turn in range(200):
            stair = some_stair(chance)
            stand = some_stand(chance, stair)
            heaps = tuple(chance.randint(0, 9) for at in range(len(stair) + 1))
            heights = tuple(sorted(chance.sample(range(-50, 50), len(stair) + 1)))
            parts = sum((heights[lock] - heights[lock - 1]) * above(stair, stand, heaps, lock)
                        for lock in range(1, len(stair) + 1))
            whole = above(stair, stand, heaps, 1) + heaps[0]
            self.assertEqual(worth(heights, stair, stand, heaps), heights[0] * whole + parts)


class BareTurnsTest(unittest.TestCase):
    def test_no_boats(self):
        self.assertEqual(bare_turns("low", 0, 0), 0)
        self.assertEqual(bare_turns("high", 0, 0), 0)

    def test_one_way_alone(self):
        for many in (1, 2, 3, FAR):
            self.assertEqual(bare_turns("low", many, 0), many - 1)
            self.assertEqual(bare_turns("high", many, 0), many)
            self.assertEqual(bare_turns("low", 0, many), many)
            self.assertEqual(bare_turns("high", 0, many), many - 1)

    def test_as_many_of_both_and_one_more(self):
        for many in (1, 2, 3, FAR):
            for chamber in ("low", "high"):
                self.assertEqual(bare_turns(chamber, many, many), 0)
            self.assertEqual(bare_turns("low", many + 1, many), 0)
            self.assertEqual(bare_turns("high", many + 1, many), 1)
            self.assertEqual(bare_turns("low", many, many + 1), 1)
            self.assertEqual(bare_turns("high", many, many + 1), 0)

    def test_very_great_numbers(self):
        self.assertEqual(bare_turns("low", FAR, 1), FAR - 2)
        self.assertEqual(bare_turns("high", FAR, 1), FAR - 1)
        self.assertEqual(bare_turns("low", 1, FAR), FAR - 1)
        self.assertEqual(bare_turns("high", 1, FAR), FAR - 2)

    def test_beside_a_search_of_all_orders(self):
        @functools.lru_cache(None)
        def fewest(chamber, ups, downs):
            if ups == downs == 0:
                return 0
            other = "high" if chamber == "low" else "low"
            ways = []
            for going, rest in (("low", (ups - 1, downs)), ("high", (ups, downs - 1))):
                if min(rest) >= 0:
                    # By the chamber as it stands, or turned bare ahead of it; behind the boat it stands the other way.
                    bare = 0 if going == chamber else 1
                    ways.append(bare + fewest(other if bare == 0 else chamber, *rest))
            return min(ways)

        for chamber in ("low", "high"):
            for ups in range(13):
                for downs in range(13):
                    self.assertEqual(bare_turns(chamber, ups, downs), fewest(chamber, ups, downs))
