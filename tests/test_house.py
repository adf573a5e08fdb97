"""house.py: [16]."""

import copy
import random
import unittest

from liftwater import errors
from liftwater.house import House, is_trip
from tests.boats import PlainHouse, answer_of, parts_of_house, shown, some_trip
from tests.things import any_things, as_lists, with_one_otherwise

FAR = 10 ** 20
LOWS = ("low", "low", "low")
HIGHS = ("high", "high", "high")
THREE = ((1, 10, 4), (2, 8, 3), (3, 6, 2))
HEAPS = (7, 5, 0, 2)
BOATS = (("cod", 3), ("anna", 0), ("b", 1))
ABOVE = {"NoBoat": LookupError, "Lack": LookupError, "Shut": RuntimeError, "Astray": RuntimeError,
         "Dry": ArithmeticError, "Light": ArithmeticError}
NONE = (0, 0, 0)


def some_house(levels=(10, 8, 6), chambers=LOWS, heaps=HEAPS, boats=BOATS):
    return House(THREE, (levels, chambers), heaps, boats)


class HouseCase(unittest.TestCase):
    def let(self, house, trip, ran, **behind):
        """The trip tells ran, and changes what is told to be behind it, and nothing else."""
        for form in (trip, list(trip)):
            now = house.like()
            with self.subTest(repr(form)):
                handed = copy.deepcopy(form)
                told = now.do(handed)
                self.assertEqual(repr(told), repr(ran))
                self.assertEqual(repr(handed), repr(form))
                levels, chambers = house.stand()
                self.assertEqual(now.stand(), (behind.get("levels", levels), behind.get("chambers", chambers)))
                self.assertEqual(now.heaps(), behind.get("heaps", house.heaps()))
                self.assertEqual(now.boats(), behind.get("boats", house.boats()))
                self.assertEqual(now.ran(), tuple(one + more for one, more in zip(house.ran(), ran)))

    def barred(self, house, trip, name, what):
        for form in (trip, list(trip)):
            with self.subTest(repr(form)):
                ahead = repr(shown(house))
                with self.assertRaises(getattr(errors, name)) as caught:
                    house.do(form)
                self.assertIs(caught.exception.__class__, getattr(errors, name))
                self.assertEqual(caught.exception.__class__.__bases__, (ABOVE[name],))
                self.assertEqual(vars(caught.exception), {"what": what})
                self.assertEqual(repr(shown(house)), ahead)


class LetTest(HouseCase):
    def test_up(self):
        self.let(some_house(), ("up", "anna", 1), NONE, levels=(6, 8, 6), chambers=("high", "low", "low"),
                 boats=[("anna", 1, 0), ("b", 1, 0), ("cod", 3, 0)])
        self.let(some_house(), ("up", "b", 2), NONE, levels=(10, 5, 6), chambers=("low", "high", "low"),
                 boats=[("anna", 0, 0), ("b", 2, 0), ("cod", 3, 0)])
        self.let(some_house(boats=(("b", 2),)), ("up", "b", 3), NONE, levels=(10, 8, 4),
                 chambers=("low", "low", "high"), boats=[("b", 3, 0)])

    def test_down(self):
        self.let(some_house(chambers=HIGHS), ("down", "b", 1), NONE, chambers=("low", "high", "high"),
                 boats=[("anna", 0, 0), ("b", 0, 0), ("cod", 3, 0)])
        self.let(some_house(chambers=HIGHS), ("down", "cod", 3), (2, 2, 0), chambers=("high", "high", "low"),
                 boats=[("anna", 0, 0), ("b", 1, 0), ("cod", 2, 0)])
        self.let(some_house((5, 8, 6), HIGHS, boats=(("b", 2),)), ("down", "b", 2), NONE, levels=(8, 8, 6),
                 chambers=("high", "low", "high"), boats=[("b", 1, 0)])

    def test_turn(self):
        for lock, size, levels in ((1, 4, (6, 8, 6)), (2, 3, (10, 5, 6)), (3, 2, (10, 8, 4))):
            chambers = tuple("high" if at == lock else "low" for at in (1, 2, 3))
            self.let(some_house(), ("turn", lock), NONE, levels=levels, chambers=chambers)
            ran = tuple(size if at < lock else 0 for at in (1, 2, 3))
            self.let(some_house(chambers=chambers), ("turn", lock), ran, chambers=LOWS)

    def test_load(self):
        self.let(some_house((5, 5, 5)), ("load", "b", 4), NONE, levels=(9, 5, 5), heaps=(7, 1, 0, 2),
                 boats=[("anna", 0, 0), ("b", 1, 4), ("cod", 3, 0)])
        self.let(some_house(), ("load", "b", 5), (5, 0, 0), heaps=(7, 0, 0, 2),
                 boats=[("anna", 0, 0), ("b", 1, 5), ("cod", 3, 0)])
        self.let(some_house((9, 8, 6)), ("load", "cod", 2), (1, 2, 2), levels=(10, 8, 6), heaps=(7, 5, 0, 0),
                 boats=[("anna", 0, 0), ("b", 1, 0), ("cod", 3, 2)])

    def test_unload(self):
        house = some_house((5, 5, 3))
        house.do(("load", "cod", 2))
        self.let(house, ("unload", "cod", 1), NONE, levels=(5, 5, 4), heaps=(7, 5, 0, 1),
                 boats=[("anna", 0, 0), ("b", 1, 0), ("cod", 3, 1)])
        self.let(house, ("unload", "cod", 2), NONE, levels=(5, 5, 3), heaps=(7, 5, 0, 2),
                 boats=[("anna", 0, 0), ("b", 1, 0), ("cod", 3, 0)])

    def test_load_and_unload_in_the_sea_raise_and_lower_nothing(self):
        house = some_house((1, 2, 3))
        aboard = [("anna", 0, 7), ("b", 1, 0), ("cod", 3, 0)]
        self.let(house, ("load", "anna", 7), NONE, heaps=(0, 5, 0, 2), boats=aboard)
        house.do(("load", "anna", 7))
        self.let(house, ("unload", "anna", 7), NONE, heaps=HEAPS, boats=[("anna", 0, 0)] + aboard[1:])
        self.let(house, ("unload", "anna", 3), NONE, heaps=(3, 5, 0, 2), boats=[("anna", 0, 4)] + aboard[1:])

    def test_goods_go_from_quay_to_quay(self):
        house = some_house((10, 8, 6), boats=(("b", 0),))
        for trip in (("load", "b", 6), ("up", "b", 1), ("up", "b", 2)):
            house.do(trip)
        self.let(house, ("unload", "b", 3), NONE, levels=(6, 2, 6), heaps=(1, 5, 3, 2), boats=[("b", 2, 3)])

    def test_carry(self):
        for house in (some_house((1, 2, 3)), some_house(chambers=HIGHS)):
            self.let(house, ("carry", 0, 3, 7), NONE, heaps=(0, 5, 0, 9))
            self.let(house, ("carry", 3, 0, 2), NONE, heaps=(9, 5, 0, 0))
            self.let(house, ("carry", 1, 2, 1), NONE, heaps=(7, 4, 1, 2))

    def test_rain_and_draw(self):
        self.let(some_house((5, 5, 5)), ("rain", 2, 3), NONE, levels=(5, 8, 5))
        self.let(some_house((5, 5, 5)), ("rain", 3, 9), (0, 5, 8), levels=(10, 8, 6))
        self.let(some_house(), ("rain", 1, FAR), (FAR, 0, 0))
        self.let(some_house(), ("draw", 1, 9), NONE, levels=(1, 8, 6))
        self.let(some_house(), ("draw", 3, 3), NONE, levels=(10, 8, 3))

    def test_levels_hang_on_no_boat(self):
        # The chamber turned bare, with a light boat and with a heavy one: the same levels.
        heavy = some_house(boats=(("a", 0), ("b", 0)), heaps=(10 ** 9, 0, 0, 0))
        heavy.do(("load", "a", 10 ** 9))
        stands = []
        for trip in (("up", "a", 1), ("up", "b", 1), ("turn", 1)):
            now = heavy.like()
            now.do(trip)
            stands.append(now.stand())
        self.assertEqual(stands, [((6, 8, 6), ("high", "low", "low"))] * 3)

    def test_ran_is_all_so_far(self):
        house = some_house()
        self.assertEqual(repr(house.ran()), repr(NONE))
        house.do(("rain", 3, 5))
        house.do(("draw", 2, 1))
        house.do(("rain", 2, 3))
        self.assertEqual(repr(house.ran()), repr((7, 7, 5)))


class RefusedTest(HouseCase):
    def test_no_boat(self):
        for word in ("up", "down", "load", "unload"):
            self.barred(some_house(), (word, "nobody", 1), "NoBoat", "nobody")
            self.barred(some_house(boats=()), (word, "anna", 1), "NoBoat", "anna")

    def test_astray(self):
        for place in range(4):
            house = some_house(boats=(("b", place),))
            for lock in (1, 2, 3):
                if place != lock - 1:
                    self.barred(house, ("up", "b", lock), "Astray", "b")
            house = some_house(chambers=HIGHS, boats=(("b", place),))
            for lock in (1, 2, 3):
                if place != lock:
                    self.barred(house, ("down", "b", lock), "Astray", "b")

    def test_shut(self):
        for lock in (1, 2, 3):
            self.barred(some_house(chambers=HIGHS, boats=(("b", lock - 1),)), ("up", "b", lock), "Shut", lock)
            self.barred(some_house(boats=(("b", lock),)), ("down", "b", lock), "Shut", lock)

    def test_lack(self):
        for quay, heap in enumerate(HEAPS):
            house = some_house(boats=(("b", quay),))
            self.barred(house, ("load", "b", heap + 1), "Lack", quay)
            self.barred(house, ("load", "b", FAR), "Lack", quay)
            for other in range(4):
                if other != quay:
                    self.barred(house, ("carry", quay, other, heap + 1), "Lack", quay)

    def test_light(self):
        for place in range(4):
            self.barred(some_house(boats=(("b", place),)), ("unload", "b", 1), "Light", "b")
        house = some_house()
        house.do(("load", "anna", 3))
        self.barred(house, ("unload", "anna", 4), "Light", "anna")

    def test_dry(self):
        house = some_house((4, 4, 4), boats=(("a", 0), ("b", 1), ("c", 2)))
        self.barred(house, ("up", "a", 1), "Dry", 1)
        self.barred(house, ("up", "b", 2), "Dry", 2)
        self.barred(house, ("up", "c", 3), "Dry", 3)
        for lock in (1, 2, 3):
            self.barred(house, ("turn", lock), "Dry", lock)
        self.barred(house, ("draw", 1, 4), "Dry", 1)
        self.barred(house, ("draw", 3, 2), "Dry", 3)

    def test_unload_is_dry(self):
        house = some_house((5, 5, 3))
        house.do(("load", "cod", 2))
        house.do(("draw", 3, 1))
        self.barred(house, ("unload", "cod", 2), "Dry", 3)
        self.let(house, ("unload", "cod", 1), NONE, levels=(5, 5, 3), heaps=(7, 5, 0, 1),
                 boats=[("anna", 0, 0), ("b", 1, 0), ("cod", 3, 1)])

    def test_down_and_rain_are_never_dry(self):
        self.let(some_house((1, 2, 3), HIGHS, boats=(("b", 1),)), ("down", "b", 1), NONE,
                 chambers=("low", "high", "high"), boats=[("b", 0, 0)])
        self.let(some_house((1, 2, 3), HIGHS), ("turn", 1), NONE, chambers=("low", "high", "high"))

    def test_of_several_the_one_told_first(self):
        low = some_house((1, 2, 3), HIGHS, boats=(("a", 2), ("b", 0), ("c", 1)))
        self.barred(low, ("up", "nobody", 1), "NoBoat", "nobody")          # Shut and Dry, too
        self.barred(low, ("up", "a", 1), "Astray", "a")                    # Shut and Dry, too
        self.barred(low, ("up", "b", 1), "Shut", 1)                        # Dry, too
        self.barred(low, ("up", "c", 2), "Shut", 2)
        self.barred(low, ("unload", "c", 1), "Light", "c")                 # Dry, too
        self.barred(low, ("unload", "nobody", 1), "NoBoat", "nobody")
        self.barred(low, ("load", "nobody", FAR), "NoBoat", "nobody")      # Lack, were it there
        self.barred(some_house(), ("down", "anna", 2), "Astray", "anna")   # Shut, too
        self.barred(some_house(), ("down", "nobody", 2), "NoBoat", "nobody")


class ManyTripsTest(unittest.TestCase):
    def test_beside_a_plain_house(self):
        chance = random.Random(161)
        seen = {}
        for turn in range(1500):
            parts = parts_of_house(chance)
            house, plain = House(*parts), PlainHouse(*parts)
            for step in range(15):
                trip = some_trip(chance, plain)
                self.assertIs(is_trip(trip), True)
                told = plain.do(trip)
                self.assertEqual(repr(answer_of(house.do, list(trip) if step % 2 else trip)), repr(told))
                self.assertEqual(repr(shown(house)), repr(plain.shown()))
                seen[trip[0], told[0]] = seen.get((trip[0], told[0]), 0) + 1
        expected = {
            "up": ("ran", "NoBoat", "Astray", "Shut", "Dry"), "down": ("ran", "NoBoat", "Astray", "Shut"),
            "turn": ("ran", "Dry"), "load": ("ran", "NoBoat", "Lack"), "unload": ("ran", "NoBoat", "Light", "Dry"),
            "carry": ("ran", "Lack"), "rain": ("ran",), "draw": ("ran", "Dry"),
        }
        self.assertEqual(sorted(seen), sorted((word, told) for word in expected for told in expected[word]))
        self.assertGreater(min(seen.values()), 10, seen)


class IsTripTest(unittest.TestCase):
    RIGHT = (("up", "anna", 1), ("down", "b", 2), ("turn", 3), ("load", "cod", 4), ("unload", "zzzzzzzz", 5),
             ("carry", 0, 1, 6), ("rain", 7, 8), ("draw", 9, 10))

    def check(self, thing, so):
        with self.subTest(repr(thing)):
            ahead = copy.deepcopy(thing)
            self.assertIs(is_trip(thing), so)
            self.assertEqual(repr(thing), repr(ahead))

    def test_each_sort(self):
        for trip in self.RIGHT:
            self.check(trip, True)

    def test_a_part_more_and_a_part_fewer(self):
        for trip in self.RIGHT:
            for more in (1, 2, "anna", None, ()):
                self.check(trip + (more,), False)
            for length in range(len(trip)):
                self.check(trip[:length], False)
            self.check(trip[1:], False)

    def test_lists_for_tuples(self):
        for trip in self.RIGHT:
            self.check(list(trip), False)
            self.check((trip,), False)
            self.check([trip], False)

    def test_locks_and_pounds(self):
        for place, so in ((-1, False), (0, False), (1, True), (20, True), (21, False), (FAR, False)):
            for trip in (("up", "a", place), ("down", "a", place), ("turn", place), ("rain", place, 1),
                         ("draw", place, 1)):
                self.check(trip, so)

    def test_quays(self):
        for quay, so in ((-1, False), (0, True), (1, True), (20, True), (21, False), (FAR, False)):
            self.check(("carry", quay, 5, 1), so)
            self.check(("carry", 5, quay, 1), so)
        self.check(("carry", 0, 20, 1), True)
        for quay in range(-1, 22):
            self.check(("carry", quay, quay, 1), False)

    def test_many(self):
        for many, so in ((-1, False), (0, False), (1, True), (2, True), (10 ** 40, True)):
            for trip in (("load", "a", many), ("unload", "a", many), ("carry", 1, 2, many), ("rain", 1, many),
                         ("draw", 1, many)):
                self.check(trip, so)

    def test_names(self):
        for name in ("a", "z", "zzzzzzzz", "abcdefgh", "up", "fill", "turn"):
            for word in ("up", "down", "load", "unload"):
                self.check((word, name, 1), True)
        for name in ("", "abcdefghi", "A", "Anna", "annA", "a b", " a", "a ", "a1", "1", "a-b", "a\n", "\n", "a.", "`",
                     "{", "\u00e4", "\u00df", "\u0131", 1, None, True, ("a",), ["a"], []):
            for word in ("up", "down", "load", "unload"):
                self.check((word, name, 1), False)

    def test_words(self):
        for word in ("", "Up", "ups", "fill", "empty", "raise", "lower", "boat", None, 1, True, (), [], ("up",)):
            for rest in (("a", 1), (1,), (1, 1), (0, 1, 1)):
                self.check((word,) + rest, False)

    def test_one_part_of_another_kind(self):
        for trip in self.RIGHT:
            for thing in with_one_otherwise(trip, (True, False, None, "", "1", "A", (1,), [1], ("a",), [], 0 - 1)):
                self.check(thing, False)

    def test_parts_exchanged(self):
        self.check(("up", 1, "a"), False)
        self.check(("load", 1, "a"), False)
        self.check(("turn", "a"), False)
        self.check(("turn", "a", 1), False)
        self.check(("up", 1), False)
        self.check(("rain", "a", 1), False)
        self.check(("carry", "a", 1, 1), False)

    def test_anything(self):
        for thing in any_things():
            self.check(thing, False)
        deep = [("up", part, 1) for part in any_things()] + [("turn", part) for part in any_things()]
        right = [("up", name, 1) for name in ("low", "high", "fill", "raise", "x")] + [("turn", 1), ("turn", 7)]
        for thing in deep:
            self.check(thing, repr(thing) in [repr(one) for one in right])


class ShownTest(unittest.TestCase):
    def test_as_it_was_made(self):
        house = some_house((5, 6, 4), ("low", "high", "low"))
        self.assertEqual(repr(house.stand()), repr(((5, 6, 4), ("low", "high", "low"))))
        self.assertEqual(repr(house.heaps()), repr(HEAPS))
        self.assertEqual(repr(house.ran()), repr(NONE))
        self.assertEqual(repr(house.boats()), repr([("anna", 0, 0), ("b", 1, 0), ("cod", 3, 0)]))
        self.assertEqual(repr(some_house(boats=()).boats()), "[]")

    def test_boats_rise(self):
        names = ["b", "a", "ab", "aa", "zz", "z"]
        house = some_house(boats=tuple((name, 3) for name in names))
        self.assertEqual([boat[0] for boat in house.boats()], ["a", "aa", "ab", "b", "z", "zz"])

    def test_lists_for_tuples_the_same_and_nothing_kept(self):
        handed = as_lists([THREE, ((5, 6, 4), LOWS), HEAPS, BOATS])
        ahead = copy.deepcopy(handed)
        house = House(*handed)
        self.assertEqual(repr(shown(house)), repr(shown(some_house((5, 6, 4)))))
        self.assertTrue(house == some_house((5, 6, 4)))
        house.do(["load", "b", 5])
        house.do(["turn", 2])
        self.assertEqual(handed, ahead)
        told = repr(shown(house))
        handed[0][0][1] = 0
        handed[1][0][0] = 0
        handed[1][1][0] = "high"
        handed[2][0] = 99
        handed[3][0][1] = 0
        handed[3].pop()
        self.assertEqual(repr(shown(house)), told)
        other = some_house((5, 6, 4))
        other.do(("load", "b", 5))
        other.do(("turn", 2))
        self.assertTrue(house == other)
        self.assertEqual(house.do(("rain", 1, 3)), other.do(("rain", 1, 3)))

    def test_a_told_list_changed_changes_no_house(self):
        house = some_house()
        told = house.boats()
        told.append(("zoe", 1, 1))
        told[0] = None
        self.assertEqual(house.boats(), [("anna", 0, 0), ("b", 1, 0), ("cod", 3, 0)])
        self.assertTrue(house == some_house())

    def test_like_goes_on_apart(self):
        house = some_house()
        house.do(("rain", 3, 5))
        house.do(("load", "anna", 2))
        other = house.like()
        self.assertIsInstance(other, House)
        self.assertEqual(repr(shown(other)), repr(shown(house)))
        self.assertTrue(house == other)
        told = repr(shown(house))
        for trip in (("turn", 2), ("load", "anna", 3), ("up", "anna", 1), ("carry", 1, 0, 1), ("rain", 1, 9)):
            other.do(trip)
        self.assertEqual(repr(shown(house)), told)
        told = repr(shown(other))
        house.do(("unload", "anna", 2))
        house.do(("rain", 1, 1))
        self.assertEqual(repr(shown(other)), told)

    def test_two_houses_of_one_stand_go_on_apart(self):
        stand = ((10, 8, 6), LOWS)
        one, other = House(THREE, stand, HEAPS, BOATS), House(THREE, stand, HEAPS, BOATS)
        one.do(("turn", 1))
        self.assertEqual(other.stand(), stand)
        self.assertFalse(one == other)
        other.do(("turn", 1))
        self.assertTrue(one == other)

    def test_equal_whatever_ran_over(self):
        house = some_house()
        house.do(("rain", 3, 5))
        self.assertTrue(house == some_house())
        self.assertIs(house == some_house(), True)
        self.assertIs(house != some_house(), False)

    def test_equal_whichever_boat_was_told_first(self):
        self.assertIs(some_house() == some_house(boats=BOATS[::-1]), True)

    def test_unlike_one_by_one(self):
        stair = ((1, 10, 4), (2, 8, 3), (2, 6, 2))
        sizes = ((1, 10, 4), (2, 8, 3), (3, 6, 1))
        loaded = some_house(heaps=(8,) + HEAPS[1:])
        loaded.do(("load", "anna", 1))
        others = [
            House(stair, ((10, 8, 6), LOWS), HEAPS, BOATS), House(sizes, ((10, 8, 6), LOWS), HEAPS, BOATS),
            some_house(levels=(10, 8, 5)), some_house(chambers=("low", "low", "high")),
            some_house(heaps=(7, 5, 0, 3)), some_house(boats=BOATS[:2]), some_house(boats=BOATS + (("d", 1),)),
            some_house(boats=(("cod", 3), ("anna", 0), ("b", 2))),
            some_house(boats=(("cod", 3), ("anna", 0), ("c", 1))), loaded,
        ]
        for at, other in enumerate(others):
            with self.subTest(at):
                self.assertIs(some_house() == other, False)
                self.assertIs(other == some_house(), False)
                self.assertIs(some_house() != other, True)

    def test_beside_anything(self):
        for thing in any_things() + [object(), House, shown(some_house()), PlainHouse(THREE, ((10, 8, 6), LOWS), HEAPS,
                                                                                      BOATS)]:
            self.assertIs(some_house() == thing, False)
            self.assertIs(thing == some_house(), False)

    def test_asking_changes_nothing(self):
        house = some_house()
        told = [repr((shown(house), house == some_house(), house.like() == house)) for turn in range(3)]
        self.assertEqual(len(set(told)), 1)

    def test_the_methods_stand_in_the_class(self):
        for name in ("do", "stand", "heaps", "ran", "boats", "like", "__eq__"):
            self.assertIn(name, vars(House))
