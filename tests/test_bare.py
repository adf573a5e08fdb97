"""bare.py: [17]."""

import copy
import random
import unittest

from liftwater import errors
from liftwater.bare import bare_of, go, is_tour, tour_told
from liftwater.deeds import gone, is_deed
from liftwater.house import House
from liftwater.rounds import fits, is_round
from tests.boats import PlainHouse, answer_of, far_house, parts_of_house, shown, some_tour, some_trip
from tests.things import as_lists

FAR = 10 ** 20
EVER = ("for ever",)
LOWS = ("low", "low")
TWO = ((1, 10, 4), (2, 8, 3))
WIDE = ((0, FAR, 4), (0, FAR, 3))
BOATS = (("anna", 0), ("b", 1), ("cod", 2))
HEAPS = (7, 5, 3)


def house_of(levels=(10, 8), chambers=LOWS, heaps=HEAPS, boats=BOATS, stair=TWO):
    return House(stair, (levels, chambers), heaps, boats)


def forms(trips):
    """The same trips as lists and tuples."""
    return list(trips), tuple(trips), as_lists(trips), tuple(as_lists(trips))


def houses_and_plain(chance, turns, wides=(3, 10, 40), goods=20):
    """A House, a PlainHouse and a trip's done in both, so that boats have goods aboard, and a tour of them."""
    for turn in range(turns):
        parts = parts_of_house(chance, wide=chance.choice(wides), goods=goods)
        house, plain = House(*parts), PlainHouse(*parts)
        for step in range(6):
            trip = some_trip(chance, plain)
            if plain.do(trip)[0] == "ran":
                house.do(trip)
        yield house, plain, some_tour(chance, plain)


class BareOfTest(unittest.TestCase):
    def check(self, house, trips, deeds):
        ahead = repr(shown(house))
        for form in forms(trips):
            handed = copy.deepcopy(form)
            with self.subTest(repr(form)):
                self.assertEqual(repr(bare_of(house, form)), repr(deeds))
                self.assertEqual(repr(form), repr(handed))
        self.assertEqual(repr(shown(house)), ahead)

    def barred(self, house, trips, name, what):
        ahead = repr(shown(house))
        for form in forms(trips):
            with self.subTest(repr(form)):
                with self.assertRaises(getattr(errors, name)) as caught:
                    bare_of(house, form)
                self.assertIs(caught.exception.__class__, getattr(errors, name))
                self.assertEqual(caught.exception.what, what)
        self.assertEqual(repr(shown(house)), ahead)

    def test_no_trips(self):
        self.check(house_of(), [], [])

    def test_each_sort(self):
        self.check(house_of(), [("up", "anna", 1)], [("fill", 1)])
        self.check(house_of(chambers=("low", "high")), [("down", "cod", 2)], [("empty", 2)])
        self.check(house_of(), [("turn", 2), ("turn", 2), ("turn", 1)], [("fill", 2), ("empty", 2), ("fill", 1)])
        self.check(house_of(chambers=("high", "low")), [("turn", 1)], [("empty", 1)])
        self.check(house_of(), [("load", "b", 3)], [("raise", 1, 3)])
        self.check(house_of(), [("load", "b", 3), ("unload", "b", 2)], [("raise", 1, 3), ("lower", 1, 2)])
        self.check(house_of(), [("rain", 2, 4), ("draw", 1, 3)], [("raise", 2, 4), ("lower", 1, 3)])

    def test_trips_that_come_to_no_deed(self):
        self.check(house_of(), [("load", "anna", 5), ("unload", "anna", 2)], [])
        self.check(house_of(), [("carry", 0, 2, 5), ("carry", 2, 1, 8)], [])
        self.check(house_of(), [("load", "anna", 5), ("up", "anna", 1), ("unload", "anna", 5), ("carry", 1, 0, 1)],
                   [("fill", 1), ("lower", 1, 5)])

    def test_refused_as_the_trip_is(self):
        self.barred(house_of(), [("up", "nobody", 1)], "NoBoat", "nobody")
        self.barred(house_of(), [("up", "b", 1)], "Astray", "b")
        self.barred(house_of(), [("up", "anna", 1), ("up", "anna", 1)], "Astray", "anna")
        self.barred(house_of(), [("turn", 1), ("up", "anna", 1)], "Shut", 1)
        self.barred(house_of(), [("load", "b", 3), ("load", "b", 3)], "Lack", 1)
        self.barred(house_of(), [("carry", 2, 0, 4)], "Lack", 2)
        self.barred(house_of(), [("load", "b", 3), ("unload", "b", 4)], "Light", "b")
        self.barred(house_of(), [("turn", 2), ("draw", 2, 4)], "Dry", 2)

    def test_deeds_as_the_house_does_them(self):
        chance = random.Random(171)
        tried = 0
        for turn in range(400):
            parts = parts_of_house(chance)
            house, plain = House(*parts), PlainHouse(*parts)
            trips = []
            for step in range(12):
                trip = some_trip(chance, plain)
                if plain.do(trip)[0] == "ran":
                    trips.append(trip)
            self.check(house, trips, bare_of(house, trips))
            deeds = bare_of(house, trips)
            self.assertTrue(all(is_deed(parts[0], deed) for deed in deeds))
            self.assertEqual(gone(parts[0], parts[1], deeds), (plain.shown()[0], plain.shown()[2]))
            refused = trips + [some_trip(chance, plain)]
            told = plain.bar(refused[-1])
            if told is not None:
                tried += 1
                self.barred(house, refused, *told)
        self.assertGreater(tried, 100)

    def test_houses_stand_alike_whichever_boats(self):
        one = house_of((5, 5), boats=(("a", 0),))
        other = house_of((5, 5), boats=(("x", 0), ("y", 1)), heaps=(0, 9, 0))
        ways = [("up", "a", 1), ("load", "a", 3), ("turn", 1)], [("turn", 1), ("load", "y", 3), ("down", "y", 1)]
        self.assertEqual(bare_of(one, ways[0]), bare_of(other, ways[1]))
        for trip, beside in zip(*ways):
            one.do(trip)
            other.do(beside)
        self.assertEqual(one.stand(), other.stand())
        self.assertEqual(one.ran(), other.ran())


class IsTourTest(unittest.TestCase):
    def check(self, house, trips, so):
        ahead = repr(shown(house))
        for form in forms(trips):
            handed = copy.deepcopy(form)
            with self.subTest(repr(form)):
                self.assertIs(is_tour(house, form), so)
                self.assertEqual(repr(form), repr(handed))
        self.assertEqual(repr(shown(house)), ahead)

    def test_no_trips(self):
        self.check(house_of(), [], True)
        self.check(house_of(boats=()), [], True)

    def test_tours(self):
        self.check(house_of(), [("up", "anna", 1), ("down", "anna", 1)], True)
        self.check(house_of(), [("up", "anna", 1), ("down", "b", 1)] * 2, False)
        self.check(house_of(), [("up", "anna", 1), ("down", "b", 1), ("up", "b", 1), ("down", "anna", 1)], True)
        self.check(house_of(), [("turn", 1), ("turn", 1), ("turn", 2), ("turn", 2)], True)
        self.check(house_of(), [("load", "b", 2), ("unload", "b", 2)], True)
        self.check(house_of(), [("load", "b", 2), ("load", "b", 3), ("unload", "b", 5)], True)
        self.check(house_of(), [("carry", 0, 1, 2), ("rain", 1, 2), ("draw", 2, 3)], True)
        self.check(house_of(), [("load", "anna", 5), ("up", "anna", 1), ("unload", "anna", 5), ("down", "anna", 1)],
                   True)

    def test_boats_elsewhere(self):
        self.check(house_of(), [("up", "anna", 1), ("turn", 1)], False)
        # One boat has only taken the other's place.
        self.check(house_of(), [("up", "anna", 1), ("down", "b", 1)], False)

    def test_more_or_fewer_aboard(self):
        self.check(house_of(), [("load", "b", 2)], False)
        self.check(house_of(), [("load", "b", 2), ("unload", "b", 1)], False)
        house = house_of()
        house.do(("load", "b", 2))
        self.check(house, [("unload", "b", 2)], False)
        self.check(house, [("unload", "b", 2), ("load", "b", 2)], True)
        self.check(house, [("unload", "b", 2), ("load", "b", 1)], False)

    def test_a_chamber_otherwise(self):
        self.check(house_of(), [("turn", 1)], False)
        self.check(house_of(chambers=("low", "high")), [("turn", 2)], False)
        self.check(house_of(chambers=("low", "high")), [("turn", 2), ("turn", 2)], True)
        self.check(house_of(), [("up", "anna", 1), ("turn", 1), ("turn", 1), ("down", "anna", 1)], True)

    def test_barred_on_the_way(self):
        self.check(house_of(), [("up", "nobody", 1), ("down", "nobody", 1)], False)
        self.check(house_of(), [("load", "nobody", 1), ("unload", "nobody", 1)], False)
        self.check(house_of(), [("up", "b", 1), ("down", "b", 1)], False)
        self.check(house_of(), [("turn", 1), ("up", "anna", 1), ("turn", 1), ("down", "anna", 1)], False)
        self.check(house_of(), [("down", "b", 1), ("up", "b", 1)], False)
        self.check(house_of(), [("unload", "b", 1), ("load", "b", 1)], False)

    def test_where_a_heap_lacks_or_a_pound_is_dry_and_nothing_else_bars(self):
        bare = house_of((1, 2), heaps=(0, 0, 0))
        self.check(bare, [("load", "b", FAR), ("unload", "b", FAR)], True)
        self.check(bare, [("carry", 0, 1, FAR)], True)
        self.check(bare, [("up", "anna", 1), ("down", "anna", 1)], True)
        self.check(bare, [("turn", 2), ("turn", 2)], True)
        self.check(bare, [("draw", 1, FAR)], True)
        self.check(bare, [("draw", 1, FAR), ("unload", "b", 1), ("load", "b", 1)], False)

    def test_a_lock_quay_or_pound_that_is_not_there(self):
        for trips in ([("turn", 3), ("turn", 3)], [("up", "cod", 3), ("down", "cod", 3)], [("rain", 3, 1)],
                      [("draw", 3, 1)], [("carry", 0, 3, 1)], [("carry", 3, 0, 1)]):
            self.check(house_of(), trips, False)

    def test_many(self):
        chance = random.Random(172)
        seen = {True: 0, False: 0}
        for house, plain, tour in houses_and_plain(chance, 300):
            self.check(house, tour, True)
            self.assertIs(is_round(house.stair, deeds_let(house, tour)), True)
            self.assertIs(fits(house.stair, house.stand(), deeds_let(house, tour)), True)
            cut = tour[:chance.randint(0, len(tour))] + [some_trip(chance, plain)] * chance.randint(0, 1)
            now = copy.deepcopy(plain)
            now.loose = True
            so = all(now.do(trip)[0] == "ran" for trip in cut)
            so = so and now.boats == plain.boats and now.chambers == plain.chambers
            seen[so] += 1
            self.check(house, cut, so)
        self.assertGreater(min(seen.values()), 50, seen)


def deeds_let(house, tour):
    """The deeds of a tour done where nothing lacks or is dry: leasts and mosts far away."""
    stair = tuple((0, 10 ** 9, size) for least, most, size in house.stair)
    heaps = tuple(10 ** 9 for heap in house.heaps())
    levels = tuple(10 ** 6 for level in house.stand()[0])
    roomy = House(stair, (levels, house.stand()[1]), heaps, [(boat, place) for boat, place, aboard in house.boats()])
    for boat, place, aboard in house.boats():
        if aboard:
            roomy.do(("load", boat, aboard))
    return bare_of(roomy, tour)


class TourToldTest(unittest.TestCase):
    def check(self, house, trips, answer):
        ahead = repr(shown(house))
        for form in forms(trips):
            handed = copy.deepcopy(form)
            with self.subTest(repr(form)):
                self.assertIs(is_tour(house, form), True)
                self.assertEqual(repr(tour_told(house, form)), repr(answer))
                self.assertEqual(repr(tour_told(house, form)), repr(answer))
                self.assertEqual(repr(form), repr(handed))
        self.assertEqual(repr(shown(house)), ahead)

    def test_for_ever(self):
        self.check(house_of(), [], EVER)
        self.check(house_of(), [("rain", 1, 4), ("up", "anna", 1), ("down", "anna", 1)], EVER)
        self.check(house_of(), [("load", "b", 5), ("unload", "b", 5)], EVER)
        self.check(house_of((5, 8)), [("load", "b", 5), ("unload", "b", 5)], EVER)
        self.check(house_of(), [("carry", 0, 1, 7), ("carry", 1, 0, 7)], EVER)
        self.check(house_of(), [("carry", 0, 1, 7), ("carry", 1, 0, 12), ("carry", 0, 1, 5)], EVER)

    def test_goods_that_go_down_lift_the_water(self):
        # Four goods go down by lock 1 each time, and lift just the lockful that goes down with them.
        trips = [("load", "b", 4), ("turn", 1), ("down", "b", 1), ("unload", "b", 4), ("up", "b", 1), ("turn", 1),
                 ("carry", 0, 1, 4)]
        house = house_of((10, 8), ("low", "low"), (0, 8, 0), (("b", 1),))
        self.check(house, trips, ("dry", 1, 4, 1))
        self.check(house, [("rain", 1, 4)] + trips, EVER)

    def test_dry_at_once(self):
        self.check(house_of((4, 8)), [("up", "anna", 1), ("down", "anna", 1)], ("dry", 0, 0, 1))
        self.check(house_of((10, 2)), [("carry", 0, 1, 1), ("turn", 2), ("turn", 2)], ("dry", 0, 1, 2))

    def test_dry_within_a_tour(self):
        trips = [("load", "anna", 2), ("unload", "anna", 2), ("turn", 1), ("carry", 0, 1, 1), ("carry", 1, 0, 1),
                 ("turn", 1), ("draw", 2, 1)]
        self.check(house_of((10, 8)), trips, ("dry", 2, 2, 1))
        self.check(house_of((5, 4)), trips, ("dry", 1, 2, 1))
        self.check(house_of((10, 3)), trips, ("dry", 1, 6, 2))

    def test_dry_far_on(self):
        house = house_of((FAR, 10 ** 16), heaps=(1, 1, 1), stair=WIDE)
        self.check(house, [("carry", 0, 1, 1), ("draw", 2, 2), ("carry", 1, 0, 1), ("rain", 2, 1)],
                   ("dry", 10 ** 16 - 1, 1, 2))
        self.check(house, [("turn", 2), ("turn", 2)], ("dry", 10 ** 16 // 3, 0, 2))

    def test_lack_at_once(self):
        self.check(house_of(), [("load", "anna", 8), ("unload", "anna", 8)], ("lack", 0, 0, 0))
        self.check(house_of((1, 2)), [("rain", 1, 9), ("load", "b", 6), ("unload", "b", 6)], ("lack", 0, 1, 1))
        self.check(house_of(), [("carry", 1, 0, 5), ("carry", 1, 0, 1)], ("lack", 0, 1, 1))
        self.check(house_of(), [("carry", 2, 0, 4), ("carry", 0, 2, 4)], ("lack", 0, 0, 2))

    def test_lack_behind_some_tours(self):
        for heap in range(12):
            house = house_of(heaps=(heap, 5, 3))
            self.check(house, [("carry", 0, 1, 3), ("carry", 1, 0, 1)],
                       ("lack", 0 if heap < 3 else (heap - 3) // 2 + 1, 0, 0))

    def test_lack_far_on(self):
        house = house_of((1, 2), heaps=(FAR, 10 ** 15, 0), stair=WIDE)
        self.check(house, [("rain", 1, 1), ("carry", 1, 0, 1)], ("lack", 10 ** 15, 1, 1))
        self.check(house, [("carry", 0, 2, 1)], ("lack", FAR, 0, 0))
        self.check(house, [("carry", 0, 2, 7), ("carry", 2, 0, 4)], ("lack", (FAR - 7) // 3 + 1, 0, 0))
        self.check(house, [("load", "anna", 3), ("unload", "anna", 3), ("carry", 0, 2, 1)], ("lack", FAR - 2, 0, 0))

    def test_both_the_one_that_is_first(self):
        house = house_of((0, 50), heaps=(100, 0, 0), stair=WIDE)
        self.check(house, [("draw", 2, 1), ("carry", 0, 1, 1)], ("dry", 50, 0, 2))
        self.check(house, [("draw", 2, 1), ("carry", 0, 1, 2)], ("dry", 50, 0, 2))
        self.check(house, [("carry", 0, 1, 2), ("draw", 2, 1)], ("lack", 50, 0, 0))
        self.check(house, [("draw", 2, 1), ("carry", 0, 1, 3)], ("lack", 33, 1, 0))
        house = house_of((0, FAR), heaps=(FAR, 0, 0), stair=WIDE)
        self.check(house, [("draw", 2, 1), ("carry", 0, 1, 1)], ("dry", FAR, 0, 2))
        self.check(house, [("carry", 0, 1, 1), ("draw", 2, 1)], ("lack", FAR, 0, 0))

    def test_the_first_of_several_quays(self):
        house = house_of(heaps=(30, 20, 10))
        self.check(house, [("carry", 0, 1, 4), ("carry", 1, 0, 5), ("carry", 2, 0, 1)], ("lack", 10, 2, 2))
        self.check(house, [("carry", 1, 0, 2), ("carry", 2, 0, 1)], ("lack", 10, 0, 1))
        self.check(house, [("carry", 2, 0, 1), ("carry", 1, 0, 2)], ("lack", 10, 0, 2))

    def test_beside_a_plain_doing(self):
        chance = random.Random(173)
        seen = {}
        for house, plain, tour in houses_and_plain(chance, 1500):
            told = tour_told(house, tour)
            first = copy.deepcopy(plain).told(tour, 60)
            if first is None:
                self.assertTrue(told == EVER or told[1] >= 60, told)
            else:
                many, place, (name, what) = first
                self.assertEqual(told, (name.lower(), many, place, what))
            key = told[0], None if first is None else min(first[0], 3)
            seen[key] = seen.get(key, 0) + 1
        self.assertGreater(min(seen[word, many] for word in ("dry", "lack") for many in range(4)), 10, seen)
        self.assertGreater(seen["for ever", None], 100)

    def test_far_ones_beside_a_doing_from_there(self):
        chance = random.Random(174)
        seen = {}
        for turn in range(250):
            house, plain, tour = far_house(chance)
            told = tour_told(house, tour)
            seen[told[0]] = seen.get(told[0], 0) + 1
            if told == EVER:
                at = go(house, tour, FAR)
                self.assertTrue(all(answer_of(at.do, trip)[0] == "ran" for trip in tour))
                continue
            word, many, place, what = told
            at = go(house, tour, many)
            for trip in tour[:place]:
                at.do(trip)
            self.assertEqual(answer_of(at.do, tour[place]), (word.capitalize(), what))
            for ahead in {0, many - 1, chance.randint(0, max(0, many - 1))} if many > 0 else ():
                at = go(house, tour, ahead)
                self.assertTrue(all(answer_of(at.do, trip)[0] == "ran" for trip in tour))
        self.assertGreater(min(seen[word] for word in ("for ever", "dry", "lack")), 20, seen)


class GoTest(unittest.TestCase):
    def check(self, house, trips, many, behind):
        """Goes to a House that shows such (stand, heaps, ran, boats)."""
        ahead = repr(shown(house))
        for form in forms(trips):
            handed = copy.deepcopy(form)
            with self.subTest(f"{form!r} {many}"):
                told = go(house, form, many)
                self.assertIsInstance(told, House)
                self.assertIsNot(told, house)
                self.assertEqual(repr(shown(told)), repr(behind))
                self.assertEqual(repr(form), repr(handed))
        self.assertEqual(repr(shown(house)), ahead)

    def barred(self, house, trips, many, name, what):
        ahead = repr(shown(house))
        for form in forms(trips):
            with self.subTest(f"{form!r} {many}"):
                with self.assertRaises(getattr(errors, name)) as caught:
                    go(house, form, many)
                self.assertIs(caught.exception.__class__, getattr(errors, name))
                self.assertEqual(vars(caught.exception), {"what": what})
        self.assertEqual(repr(shown(house)), ahead)

    def test_many_nought_and_no_trips(self):
        house = house_of()
        house.do(("rain", 2, 3))
        house.do(("load", "b", 1))
        for trips in ([], [("draw", 2, 9)], [("carry", 0, 1, FAR)], [("up", "anna", 1), ("down", "anna", 1)]):
            self.check(house, trips, 0, shown(house))
        for many in (1, 2, FAR):
            self.check(house, [], many, shown(house))

    def test_as_many_as_are_let_and_one_more(self):
        trips = [("draw", 2, 1), ("rain", 1, 1)]
        boats = house_of().boats()
        for many in range(7):
            self.check(house_of(), trips, many, (((10, 8 - many), LOWS), HEAPS, (many, 0), boats))
        for many in (7, 8, FAR):
            self.barred(house_of(), trips, many, "Dry", 2)
        trips = [("carry", 0, 2, 2)]
        for many in range(4):
            self.check(house_of(), trips, many, (((10, 8), LOWS), (7 - 2 * many, 5, 3 + 2 * many), (0, 0), boats))
        for many in (4, 5, FAR):
            self.barred(house_of(), trips, many, "Lack", 0)

    def test_refused_as_the_first_trip_is(self):
        house = house_of((0, 50), heaps=(100, 0, 0), stair=WIDE)
        self.barred(house, [("draw", 2, 1), ("carry", 0, 1, 2)], FAR, "Dry", 2)
        self.barred(house, [("carry", 0, 1, 2), ("draw", 2, 1)], FAR, "Lack", 0)
        self.barred(house, [("carry", 0, 1, 2), ("draw", 2, 1)], 51, "Lack", 0)
        self.check(house, [("carry", 0, 1, 2), ("draw", 2, 1)], 50,
                   (((0, 0), LOWS), (0, 100, 0), (0, 0), house.boats()))

    def test_very_many(self):
        house = house_of((10, 8))
        trips = [("rain", 1, 4), ("up", "anna", 1), ("down", "anna", 1)]
        self.check(house, trips, FAR, (((6, 8), LOWS), HEAPS, (4, 0), house.boats()))
        trips = [("rain", 2, 9), ("turn", 2), ("turn", 2), ("turn", 1), ("turn", 1)]
        self.check(house, trips, FAR, (((6, 5), LOWS), HEAPS, (5 * FAR + 7, 6 * FAR + 3), house.boats()))

    def test_ran_is_added_to_what_ran_ahead(self):
        house = house_of((9, 8))
        house.do(("rain", 1, 5))
        self.assertEqual(house.ran(), (4, 0))
        self.check(house, [("rain", 2, 1)], 10, (((10, 8), LOWS), HEAPS, (14, 10), house.boats()))

    def test_goods_aboard_stay(self):
        house = house_of((5, 5))
        house.do(("load", "b", 4))
        self.check(house, [("unload", "b", 4), ("load", "b", 4)], 9, shown(house))
        self.check(house, [("rain", 2, 1)], 3,
                   (((9, 8), LOWS), (7, 1, 3), (0, 0), [("anna", 0, 0), ("b", 1, 4), ("cod", 2, 0)]))

    def test_goes_on_apart(self):
        house = house_of()
        told = go(house, [("rain", 1, 1)], 3)
        told.do(("up", "anna", 1))
        told.do(("carry", 0, 1, 1))
        self.assertEqual(shown(house), shown(house_of()))
        house.do(("load", "b", 1))
        self.assertEqual(told.boats(), [("anna", 1, 0), ("b", 1, 0), ("cod", 2, 0)])

    def test_beside_a_plain_doing(self):
        chance = random.Random(175)
        seen = {"ran": 0, "Dry": 0, "Lack": 0}
        for house, plain, tour in houses_and_plain(chance, 700):
            many = chance.choice([0, 1, 2, 5, 30])
            first = plain.told(tour, many)
            if first is None:
                told = go(house, tour, many)
                self.assertEqual(repr(shown(told)), repr(plain.shown()))
                seen["ran"] += 1
            else:
                self.assertEqual(answer_of(go, house, tour, many), first[2])
                seen[first[2][0]] += 1
        self.assertGreater(min(seen.values()), 40, seen)

    def test_far_ones_in_two_parts(self):
        chance = random.Random(176)
        tried = 0
        for turn in range(150):
            house, plain, tour = far_house(chance)
            told = tour_told(house, tour)
            many = FAR if told == EVER else told[1]
            cut = chance.randint(0, many)
            whole = go(house, tour, many)
            parts = go(go(house, tour, cut), tour, many - cut)
            self.assertEqual(shown(parts), shown(whole))
            if told != EVER:
                tried += 1
                self.assertEqual(answer_of(go, house, tour, many + 1), (told[0].capitalize(), told[3]))
                self.assertEqual(tour_told(go(house, tour, cut), tour), (told[0], many - cut) + told[2:])
        self.assertGreater(tried, 30)
