"""yard.py: [19]."""

import copy
import random
import unittest

from liftwater import errors
from liftwater.house import House
from liftwater.yard import Yard
from tests.boats import PlainHouse, answer_of, parts_of_house, shown, some_tour, some_trip
from tests.things import as_lists

FAR = 10 ** 20
LOWS = ("low", "low")
TWO = ((1, 10, 4), (2, 8, 3))
BOATS = (("anna", 0), ("b", 1))
HEAPS = (7, 5, 3)
BOTH = [("anna", 0, 0), ("b", 1, 0)]
LOCKAGE = [("rain", 1, 4), ("up", "anna", 1), ("down", "anna", 1)]


def house_of(levels=(10, 8), chambers=LOWS, heaps=HEAPS, boats=BOATS):
    return House(TWO, (levels, chambers), heaps, boats)


def ends(*words):
    """The log of deeds of these words."""
    return [(end, word) for word in words for end in ("in", "out")]


class YardCase(unittest.TestCase):
    def let(self, yard, word, handed, answer, behind):
        """A deed that tells the answer; the house shows what is behind, one deed more stands, the log has both ends."""
        deeds, log = yard.deeds(), yard.log()
        ahead = copy.deepcopy(handed)
        self.assertEqual(repr(getattr(yard, word)(*handed)), repr(answer))
        self.assertEqual(repr(handed), repr(ahead))
        self.assertEqual(repr(shown(yard.house())), repr(behind))
        self.assertEqual(yard.deeds(), deeds + 1)
        self.assertEqual(repr(yard.log()), repr(log + ends(word)))

    def barred(self, yard, word, handed, name, what):
        """A deed that is refused: all is as it was, but the log has both ends."""
        told, deeds, log = repr(shown(yard.house())), yard.deeds(), yard.log()
        ahead = copy.deepcopy(handed)
        with self.assertRaises(getattr(errors, name)) as caught:
            getattr(yard, word)(*handed)
        self.assertIs(caught.exception.__class__, getattr(errors, name))
        self.assertEqual(vars(caught.exception), {"what": what})
        self.assertEqual(repr(handed), repr(ahead))
        self.assertEqual((repr(shown(yard.house())), yard.deeds()), (told, deeds))
        self.assertEqual(repr(yard.log()), repr(log + ends(word)))


class NewTest(YardCase):
    def test_a_new_yard(self):
        house = house_of()
        house.do(("rain", 2, 3))
        yard = Yard(house)
        self.assertEqual(repr(shown(yard.house())), repr(shown(house)))
        self.assertEqual(repr((yard.deeds(), yard.log())), "(0, [])")
        self.assertIsInstance(yard.house(), House)

    def test_the_house_it_was_made_of_is_not_kept(self):
        house = house_of()
        yard = Yard(house)
        yard.do(("turn", 1))
        self.assertEqual(shown(house), shown(house_of()))
        house.do(("load", "b", 2))
        self.assertEqual(yard.house().boats(), BOTH)
        yard.undo()
        self.assertEqual(shown(yard.house()), shown(house_of()))

    def test_told_houses_and_logs_changed_by_the_asker(self):
        yard = Yard(house_of())
        yard.do(("turn", 1))
        told, log = repr(shown(yard.house())), repr(yard.log())
        yard.house().do(("turn", 1))
        yard.log().clear()
        yard.log().append(None)
        self.assertEqual((repr(shown(yard.house())), repr(yard.log())), (told, log))
        other = Yard(yard.house())
        other.do(("turn", 2))
        self.assertEqual(repr(shown(yard.house())), told)

    def test_the_methods_stand_in_the_class(self):
        for name in ("do", "tours", "all_of", "undo", "house", "deeds", "log", "twin"):
            self.assertIn(name, vars(Yard))


class DoTest(YardCase):
    def test_let(self):
        for form in (tuple, list):
            yard = Yard(house_of())
            self.let(yard, "do", (form(("rain", 2, 3)),), (3, 3), (((10, 8), LOWS), HEAPS, (3, 3), BOTH))
            self.let(yard, "do", (form(("up", "anna", 1)),), (0, 0),
                     (((6, 8), ("high", "low")), HEAPS, (3, 3), [("anna", 1, 0), ("b", 1, 0)]))

    def test_refused(self):
        yard = Yard(house_of((4, 8), ("low", "high")))
        for trip, name, what in ((("up", "nobody", 1), "NoBoat", "nobody"), (("up", "b", 1), "Astray", "b"),
                                 (("up", "b", 2), "Shut", 2), (("load", "b", 6), "Lack", 1),
                                 (("unload", "b", 1), "Light", "b"), (("up", "anna", 1), "Dry", 1)):
            for form in (tuple, list):
                self.barred(yard, "do", (form(trip),), name, what)
        self.assertEqual(yard.deeds(), 0)
        self.assertEqual(len(yard.log()), 24)


class ToursTest(YardCase):
    def test_let(self):
        for form in (LOCKAGE, tuple(LOCKAGE), as_lists(LOCKAGE), tuple(as_lists(LOCKAGE))):
            yard = Yard(house_of())
            self.let(yard, "tours", (form, 1), (4, 0), (((6, 8), LOWS), HEAPS, (4, 0), BOTH))
            self.let(yard, "tours", (form, 3), (0, 0), (((6, 8), LOWS), HEAPS, (4, 0), BOTH))
            self.let(yard, "tours", ([("rain", 2, 2)], FAR), (2 * FAR - 4, 2 * FAR),
                     (((10, 8), LOWS), HEAPS, (2 * FAR, 2 * FAR), BOTH))
            self.let(yard, "tours", (form, FAR), (4, 0), (((6, 8), LOWS), HEAPS, (2 * FAR + 4, 2 * FAR), BOTH))

    def test_what_ran_by_them_alone(self):
        yard = Yard(house_of())
        yard.do(("rain", 2, 100))
        self.assertEqual(yard.tours([("rain", 2, 1)], 5), (5, 5))
        self.assertEqual(yard.house().ran(), (105, 105))

    def test_none_and_of_no_trips(self):
        yard = Yard(house_of())
        stays = shown(house_of())
        for trips in ([], (), LOCKAGE, [("draw", 2, FAR)], [("carry", 0, 1, FAR)]):
            self.let(yard, "tours", (trips, 0), (0, 0), stays)
        for many in (1, 5, FAR):
            self.let(yard, "tours", ([], many), (0, 0), stays)
        self.assertEqual(yard.deeds(), 8)
        self.assertEqual([yard.undo() for turn in range(9)], [True] * 8 + [False])

    def test_goods(self):
        yard = Yard(house_of())
        self.let(yard, "tours", ([("carry", 0, 2, 2)], 3), (0, 0), (((10, 8), LOWS), (1, 5, 9), (0, 0), BOTH))
        self.barred(yard, "tours", ([("carry", 0, 2, 2)], 1), "Lack", 0)

    def test_refused(self):
        yard = Yard(house_of())
        self.barred(yard, "tours", ([("draw", 2, 1)], 7), "Dry", 2)
        self.barred(yard, "tours", ([("draw", 2, 1)], FAR), "Dry", 2)
        self.let(yard, "tours", ([("draw", 2, 1)], 6), (0, 0), (((10, 2), LOWS), HEAPS, (0, 0), BOTH))
        self.barred(yard, "tours", ([("carry", 1, 2, 1)], 6), "Lack", 1)
        self.barred(yard, "tours", ([("carry", 1, 2, 1), ("draw", 1, 1)], FAR), "Lack", 1)
        self.barred(yard, "tours", ([("carry", 1, 2, 1), ("draw", 1, 2)], FAR), "Dry", 1)

    def test_no_tour_is_how_many_trips_there_are(self):
        yard = Yard(house_of())
        for trips in ([("turn", 1)], [("up", "anna", 1), ("turn", 1)], [("load", "b", 1)],
                      [("up", "nobody", 1), ("down", "nobody", 1), ("turn", 1), ("turn", 1)],
                      [("down", "b", 1), ("up", "b", 1), ("turn", 1)], [("unload", "b", 1), ("load", "b", 1)]):
            for many in (0, 1, FAR):
                self.barred(yard, "tours", (trips, many), "NoTour", len(trips))
                self.barred(yard, "tours", (tuple(as_lists(trips)), many), "NoTour", len(trips))

    def test_no_tour_ahead_of_dry_and_lack(self):
        yard = Yard(house_of((1, 2)))
        self.barred(yard, "tours", ([("draw", 2, 1), ("turn", 1)], 5), "NoTour", 2)
        self.barred(yard, "tours", ([("carry", 0, 1, FAR), ("draw", 1, 1), ("turn", 1)], 5), "NoTour", 3)
        self.barred(yard, "tours", ([("turn", 2)], 5), "NoTour", 1)


class AllOfTest(YardCase):
    def test_let(self):
        trips = [("rain", 2, 3), ("load", "b", 2), ("up", "anna", 1)]
        behind = (((6, 8), ("high", "low")), (7, 3, 3), (5, 3), [("anna", 1, 0), ("b", 1, 2)])
        for form in (trips, tuple(trips), as_lists(trips), tuple(as_lists(trips))):
            self.let(Yard(house_of()), "all_of", (form,), [(3, 3), (2, 0), (0, 0)], behind)

    def test_none(self):
        yard = Yard(house_of())
        self.let(yard, "all_of", ([],), [], shown(house_of()))
        self.let(yard, "all_of", ((),), [], shown(house_of()))
        self.assertEqual([yard.undo(), yard.undo(), yard.undo()], [True, True, False])

    def test_refused_in_its_midst(self):
        yard = Yard(house_of())
        yard.do(("rain", 1, 1))
        for last, name, what in ((("turn", 1), "Dry", 1), (("up", "anna", 1), "Shut", 1),
                                 (("up", "b", 1), "Astray", "b"), (("load", "b", 4), "Lack", 1),
                                 (("unload", "b", 3), "Light", "b"), (("load", "c", 3), "NoBoat", "c")):
            trips = [("rain", 2, 9), ("draw", 1, 4), ("load", "b", 2), ("turn", 1), last, ("rain", 1, 1)]
            if name == "Dry":
                trips[4:5] = [("turn", 1), ("turn", 1)]
            self.barred(yard, "all_of", (trips,), name, what)
            self.barred(yard, "all_of", (tuple(as_lists(trips)),), name, what)
        self.assertEqual(yard.deeds(), 1)

    def test_the_first_refusal_goes(self):
        self.barred(Yard(house_of()), "all_of", ([("draw", 2, 9), ("load", "c", 1)],), "Dry", 2)
        self.barred(Yard(house_of()), "all_of", ([("load", "c", 1), ("draw", 2, 9)],), "NoBoat", "c")

    def test_is_undone_at_once(self):
        yard = Yard(house_of())
        yard.all_of([("rain", 2, 3), ("load", "b", 2), ("up", "anna", 1)])
        self.assertIs(yard.undo(), True)
        self.assertEqual(repr(shown(yard.house())), repr(shown(house_of())))


class UndoTest(YardCase):
    def test_none(self):
        yard = Yard(house_of())
        for turn in range(3):
            self.assertIs(yard.undo(), False)
        self.assertEqual(yard.deeds(), 0)
        self.assertEqual(repr(yard.log()), repr(ends("undo", "undo", "undo")))
        self.assertEqual(repr(shown(yard.house())), repr(shown(house_of())))

    def test_each_sort(self):
        yard = Yard(house_of())
        stays = []
        for word, handed in (("do", (("rain", 2, 3),)), ("tours", (LOCKAGE, FAR)), ("all_of", ([("turn", 2)],)),
                             ("tours", ([("carry", 0, 1, 1)], 4)), ("do", (("load", "b", 2),))):
            stays.append(repr(shown(yard.house())))
            getattr(yard, word)(*handed)
        for deeds in range(4, -1, -1):
            self.assertIs(yard.undo(), True)
            self.assertEqual(repr(shown(yard.house())), stays.pop())
            self.assertEqual(yard.deeds(), deeds)
        self.assertIs(yard.undo(), False)
        self.assertEqual(yard.log(), ends("do", "tours", "all_of", "tours", "do", *["undo"] * 6))

    def test_a_refused_deed_is_not_undone(self):
        yard = Yard(house_of())
        yard.do(("rain", 2, 3))
        self.assertRaises(errors.Dry, yard.do, ("draw", 2, 9))
        self.assertRaises(errors.NoTour, yard.tours, [("turn", 2)], 3)
        self.assertIs(yard.undo(), True)
        self.assertEqual(repr(shown(yard.house())), repr(shown(house_of())))
        self.assertIs(yard.undo(), False)

    def test_eighty_deeds_undone_to_the_first(self):
        yard = Yard(house_of())
        stays = []
        for turn in range(80):
            stays.append(repr(shown(yard.house())))
            yard.do(("rain", 2, turn + 1) if turn % 2 else ("draw", 2, 1))
        self.assertEqual(yard.deeds(), 80)
        for turn in range(80):
            self.assertIs(yard.undo(), True)
            self.assertEqual(repr(shown(yard.house())), stays.pop())
        self.assertIs(yard.undo(), False)
        self.assertEqual(yard.deeds(), 0)
        self.assertEqual(yard.log(), ends(*["do"] * 80, *["undo"] * 81))


class TwinTest(YardCase):
    def test_goes_on_alike_and_apart(self):
        yard = Yard(house_of())
        yard.do(("rain", 2, 3))
        yard.tours(LOCKAGE, 2)
        twin = yard.twin()
        self.assertIsInstance(twin, Yard)
        self.assertEqual(repr(twin.log()), "[]")
        self.assertEqual(twin.deeds(), 2)
        self.assertEqual(repr(shown(twin.house())), repr(shown(yard.house())))
        told = repr(shown(yard.house()))
        twin.do(("turn", 2))
        self.assertEqual((repr(shown(yard.house())), yard.deeds(), yard.log()), (told, 2, ends("do", "tours")))
        yard.undo()
        yard.undo()
        self.assertEqual(twin.deeds(), 3)
        self.assertEqual(twin.log(), ends("do"))
        twin.undo()
        self.assertEqual(repr(shown(twin.house())), told)
        self.assertEqual([twin.undo(), twin.undo(), twin.undo()], [True, True, False])
        self.assertEqual(repr(shown(twin.house())), repr(shown(house_of())))
        self.assertEqual(repr(shown(yard.house())), repr(shown(house_of())))

    def test_a_twin_of_a_new_yard_and_of_a_twin(self):
        twin = Yard(house_of()).twin()
        self.assertIs(twin.undo(), False)
        twin.do(("turn", 2))
        second = twin.twin()
        self.assertEqual((second.deeds(), second.log()), (1, []))
        self.assertIs(second.undo(), True)
        self.assertEqual(twin.deeds(), 1)


class ManyDeedsTest(unittest.TestCase):
    """Deeds, refused ones and undone ones drawn by chance, beside a plain house done anew of the deeds that stand."""

    def plain_deed(self, plain, word, handed):
        """The plain house behind a deed and its answer, or the refusal."""
        now = copy.deepcopy(plain)
        if word == "do":
            return now, now.do(handed[0])
        if word == "all_of":
            told = [now.do(trip) for trip in handed[0]]
            bars = [one for one in told if one[0] != "ran"]
            return now, bars[0] if bars else ("ran", [ran for name, ran in told])
        first = now.told(*handed)
        ran = tuple(one - other for one, other in zip(now.ran, plain.ran))
        return now, ("ran", ran) if first is None else first[2]

    def some_deed(self, chance, plain):
        word = chance.choice(["do", "do", "tours", "all_of"])
        if word == "tours":
            return word, (some_tour(chance, plain), chance.choice([0, 1, 2, 7]))
        trips = [some_trip(chance, plain) for turn in range(chance.randint(0, 3))]
        return (word, (trips,)) if word == "all_of" else (word, (some_trip(chance, plain),))

    def test_many(self):
        chance = random.Random(191)
        seen = {}
        for turn in range(200):
            parts = parts_of_house(chance)
            yards, plains, words = [Yard(House(*parts))], [PlainHouse(*parts)], []
            for step in range(20):
                yard = yards[-1]
                if chance.random() < 0.25:
                    self.assertIs(yard.undo(), len(plains) > 1)
                    plains = plains[:-1] or plains
                    words.append("undo")
                else:
                    word, handed = self.some_deed(chance, plains[-1])
                    behind, answer = self.plain_deed(plains[-1], word, handed)
                    self.assertEqual(repr(answer_of(getattr(yard, word), *handed)), repr(answer))
                    plains += [behind] if answer[0] == "ran" else []
                    words.append(word)
                    seen[word, answer[0] == "ran"] = seen.get((word, answer[0] == "ran"), 0) + 1
                self.assertEqual(repr(shown(yard.house())), repr(plains[-1].shown()))
                self.assertEqual(yard.deeds(), len(plains) - 1)
                self.assertEqual(yard.log(), ends(*words))
                if chance.random() < 0.1:
                    yards.append(yard.twin())
                    words = []
        self.assertGreater(min(seen.values()), 100, seen)
        self.assertEqual(len(seen), 6)
