"""The interface, and [1] (a) to (h) over the whole program, on stairs drawn by chance, near and far."""

import copy
import importlib
import inspect
import random
import unittest

from liftwater.alikes import alike, no_less, parted_at
from liftwater.bare import bare_of, go, is_tour, tour_told
from liftwater.begins import least_level, least_thaw, most_taken, stones_of
from liftwater.courses import course_end, course_told
from liftwater.deeds import gone
from liftwater.endings import goes, stood, told
from liftwater.errors import Dry
from liftwater.far import far_levels, ran_over, total_at
from liftwater.house import House
from liftwater.lies import above, emptied, false_in
from liftwater.papercheck import shows_dry, shows_ever
from liftwater.papers import dry_paper, ever_paper
from liftwater.rounds import fits, is_round, sums_of
from liftwater.totals import totals_of
from liftwater.yard import Yard
from tests.boats import PlainHouse, answer_of, far_house, parts_of_house, shown, some_tour, some_trip
from tests.plain import far_case, lasting_case, low_levels, plain_deeds, plain_dry, some_case

FAR = 10 ** 20
EVER = ("for ever",)

NAMES = {
    "words": "LOW HIGH",
    "errors": "BadText BadRow NoTour NoBoat Lack Shut Astray Dry Light",
    "stairs": "is_stair/1 is_stand/2 brimful/1",
    "deeds": "is_deed/2 fault_of/3 done/3 gone/3",
    "rounds": "is_round/2 fits/3 sums_of/2",
    "totals": "totals_of/1 levels_of/1",
    "tables": "is_table/2 led/2 table_of/2 behind/2 power/2",
    "far": "far_levels/4 ran_over/4 total_at/6 rows_of/5",
    "endings": "told/3 goes/4 stood/3",
    "papercheck": "shows_ever/4 shows_dry/6",
    "papers": "ever_paper/3 dry_paper/3",
    "begins": "least_level/4 least_thaw/3 most_taken/4 stones_of/2",
    "alikes": "alike/3 parted_at/3 no_less/3",
    "courses": "course_told/3 course_end/3",
    "house": "House/4 is_trip/1",
    "bare": "bare_of/2 is_tour/2 tour_told/2 go/3",
    "lies": "above/4 emptied/4 false_in/5 worth/4 bare_turns/3",
    "yard": "Yard/1",
    "texts": "stair_text/1 stair_in/1 trip_text/1 trip_in/1",
    "desk": "run/1",
}
METHODS = {
    ("house", "House"): "do/1 stand/0 heaps/0 ran/0 boats/0 like/0 __eq__/1",
    ("yard", "Yard"): "do/1 tours/2 all_of/1 undo/0 house/0 deeds/0 log/0 twin/0",
}


def many_of(thing):
    """How many things it's handed."""
    return len(inspect.signature(thing).parameters)


class InterfaceTest(unittest.TestCase):
    def test_every_name_is_there(self):
        for file, names in NAMES.items():
            module = importlib.import_module(f"liftwater.{file}")
            for name in names.split():
                name, slash, many = name.partition("/")
                with self.subTest(f"{file} {name}"):
                    thing = getattr(module, name)
                    if many:
                        self.assertEqual(many_of(thing), int(many))
                        self.assertEqual(thing.__module__, f"liftwater.{file}")

    def test_the_words(self):
        words = importlib.import_module("liftwater.words")
        self.assertEqual((words.LOW, words.HIGH), ("low", "high"))

    def test_every_method_stands_in_its_class(self):
        for (file, name), methods in METHODS.items():
            kind = getattr(importlib.import_module(f"liftwater.{file}"), name)
            self.assertEqual(kind.__bases__, (object,))
            for method in methods.split():
                method, slash, many = method.partition("/")
                self.assertEqual(many_of(vars(kind)[method]), int(many) + 1, method)


def cases(chance, turns):
    """Stairs, stands and rounds, near ones and far ones by turns, and whether they are near."""
    for turn in range(turns):
        near = turn % 2 == 0
        yield (*(lasting_case(chance) if near else far_case(chance)), near)


def houses(chance, turns):
    """A House, a PlainHouse and a tour of both, near ones and far ones by turns."""
    for turn in range(turns):
        if turn % 2:
            house, plain, tour = far_house(chance)
        else:
            parts = parts_of_house(chance, wide=chance.choice([3, 10, 40]), goods=20)
            house, plain = House(*parts), PlainHouse(*parts)
            tour = some_tour(chance, plain)
        yield house, plain, tour


class PromisesTest(unittest.TestCase):
    def test_a_levels_hang_on_no_boat(self):
        # A house with no boats and no goods, whose chambers are turned and whose pounds are rained on and drawn from
        # as the boats' house does, has the same stands and the same that ran over.
        chance = random.Random(11)
        tried = 0
        for turn in range(300):
            parts = parts_of_house(chance, goods=20)
            house, plain = House(*parts), PlainHouse(*parts)
            bare = House(parts[0], parts[1], (0,) * len(parts[2]), ())
            for step in range(15):
                trip = some_trip(chance, plain)
                if plain.bar(trip) is not None:
                    continue
                tried += 1
                plain.do(trip)
                deeds = bare_of(house, [trip])
                ran = house.do(trip)
                for deed in deeds:
                    word = {"fill": "turn", "empty": "turn", "raise": "rain", "lower": "draw"}[deed[0]]
                    self.assertEqual(bare.do((word,) + deed[1:]), ran)
                self.assertEqual(bare.stand(), house.stand())
                self.assertEqual(bare.ran(), house.ran())
        self.assertGreater(tried, 1000)

    def test_b_what_a_round_adds_to_all_above_a_lock(self):
        chance = random.Random(12)
        for stair, stand, deeds, near in cases(chance, 300):
            sums = sums_of(stair, deeds)
            for lock in range(1, len(stair) + 1):
                raised = sum(deed[2] for deed in deeds if deed[0] == "raise" and deed[1] >= lock)
                lowered = sum(deed[2] for deed in deeds if deed[0] == "lower" and deed[1] >= lock)
                self.assertEqual(sums[lock - 1], raised - lowered - stair[lock - 1][2] * deeds.count(("empty", lock)))
            many = chance.randint(0, 20) if near else chance.randint(0, FAR)
            levels = far_levels(stair, stand[0], deeds, many)
            ran = ran_over(stair, stand[0], deeds, many)
            for at, (total, later) in enumerate(zip(totals_of(stand[0]), totals_of(levels))):
                self.assertEqual(later, total + many * sums[at] - ran[at])

    def test_b_goods_that_go_down_lift_as_much_water_as_they_weigh(self):
        # A boat takes goods down across each lock, from the quay at the top to the sea; the way back it's bare. What
        # is above a lock has then a lockful less for each emptying, goods and water together: so the water has that
        # many more as goods are gone.
        chance = random.Random(13)
        for turn in range(100):
            n = chance.randint(1, 6)
            stair = tuple((0, 10 ** 9, chance.randint(1, 9)) for at in range(n))
            levels = tuple(10 ** 6 for at in range(n))
            many = chance.randint(1, 50)
            house = House(stair, (levels, ("high",) * n), (0,) * n + (many,), (("a", n),))
            trips = [("load", "a", many)] + [("down", "a", lock) for lock in range(n, 0, -1)] + [("unload", "a", many)]
            trips += [("up", "a", lock) for lock in range(1, n + 1)]
            for trip in trips:
                house.do(trip)
            self.assertEqual(house.heaps(), (many,) + (0,) * n)
            for lock in range(1, n + 1):
                self.assertEqual(sum(house.stand()[0][lock - 1:]),
                                 sum(levels[lock - 1:]) - stair[lock - 1][2] + many)

    def test_c_levels_and_all_that_ran_behind_any_many_rounds(self):
        chance = random.Random(14)
        for stair, stand, deeds, near in cases(chance, 200):
            if near:
                many = chance.randint(0, 30)
                right = plain_deeds(stair, stand[0], deeds * many)
                self.assertEqual((far_levels(stair, stand[0], deeds, many), ran_over(stair, stand[0], deeds, many)),
                                 right)
            else:
                many, cut = FAR, chance.randint(0, FAR)
                first = far_levels(stair, stand[0], deeds, cut)
                self.assertEqual(far_levels(stair, stand[0], deeds, many), far_levels(stair, first, deeds, many - cut))
                ran = [one + other for one, other in zip(ran_over(stair, stand[0], deeds, cut),
                                                         ran_over(stair, first, deeds, many - cut))]
                self.assertEqual(list(ran_over(stair, stand[0], deeds, many)), ran)
                # One round more is plainly gone through from there.
                levels = far_levels(stair, stand[0], deeds, many)
                self.assertEqual(plain_deeds(stair, levels, deeds)[0], far_levels(stair, levels, deeds, 1))
                self.assertEqual(plain_deeds(stair, levels, deeds)[0],
                                 far_levels(stair, stand[0], deeds, many + 1))

    def test_d_for_ever_or_dry_with_a_paper_that_shows_it_and_never_both(self):
        chance = random.Random(15)
        seen = {}
        for stair, stand, deeds, near in cases(chance, 400):
            self.assertIs(is_round(stair, deeds), True)
            self.assertIs(fits(stair, stand, deeds), True)
            ending = told(stair, stand, deeds)
            seen[near, ending[0]] = seen.get((near, ending[0]), 0) + 1
            ever, dry = ever_paper(stair, stand, deeds), dry_paper(stair, stand, deeds)
            if ending == EVER:
                self.assertIs(dry, None)
                self.assertIs(shows_ever(stair, stand, deeds, ever), True)
                self.assertIs(goes(stair, stand, deeds, FAR), True)
                self.assertEqual(stood(stair, stand, deeds)[1], far_levels(stair, stand[0], deeds, 10 ** 30))
                continue
            word, many, place, pound = ending
            self.assertIs(ever, None)
            self.assertIs(shows_dry(stair, stand, deeds, many, place, dry), True)
            self.assertEqual(answer_of(stood, stair, stand, deeds), ("Dry", pound))
            self.assertEqual((goes(stair, stand, deeds, many), goes(stair, stand, deeds, many + 1)), (True, False))
            level = (total_at(stair, stand[0], deeds, many, place, pound)
                     - total_at(stair, stand[0], deeds, many, place, pound + 1))
            asked = deeds[place][2] if len(deeds[place]) == 3 else stair[pound - 1][2]
            self.assertLess(level - asked, stair[pound - 1][0])
            if near and many < 60:
                self.assertEqual(plain_dry(stair, stand[0], deeds, 61), (many, place, pound))
            # A paper that shows the one, asked about the other.
            self.assertIs(shows_ever(stair, stand, deeds, (max(many - 1, len(stair)), dry)), False)
        self.assertGreater(min(seen.values()), 40, seen)
        self.assertEqual(len(seen), 4)

    def test_d_of_tours_likewise(self):
        chance = random.Random(16)
        seen = {}
        for house, plain, tour in houses(chance, 400):
            self.assertIs(is_tour(house, tour), True)
            ending = tour_told(house, tour)
            seen[ending[0]] = seen.get(ending[0], 0) + 1
            if ending == EVER:
                self.assertEqual(answer_of(go, house, tour, FAR)[0], "ran")
                continue
            word, many, place, what = ending
            last = go(house, tour, many)
            for trip in tour[:place]:
                last.do(trip)
            self.assertEqual(answer_of(last.do, tour[place]), (word.capitalize(), what))
            self.assertEqual(answer_of(go, house, tour, many + 1), (word.capitalize(), what))
        self.assertGreater(min(seen.values()), 50, seen)

    def test_d_a_tour_that_lacks_nothing_is_told_as_its_round(self):
        chance = random.Random(17)
        tried = 0
        for house, plain, tour in houses(chance, 300):
            if tour_told(house, tour)[0] == "lack" or answer_of(bare_of, house, tour)[0] != "ran":
                continue
            tried += 1
            ending = told(house.stair, house.stand(), bare_of(house, tour))
            self.assertEqual(tour_told(house, tour)[:2], ending[:2])
            self.assertEqual(tour_told(house, tour)[3:], ending[3:])
        self.assertGreater(tried, 100)

    def test_e_least_beginnings_and_one_more_or_less_beside_them(self):
        chance = random.Random(18)
        seen = {"level": 0, "thaw": 0, "taken": 0, "stones": 0}
        for stair, stand, deeds, near in cases(chance, 120):
            pound = chance.randint(1, len(stair))

            def ever(level=stand[0][pound - 1], thaw=0, taken=0):
                levels = stand[0][:pound - 1] + (level,) + stand[0][pound:]
                every = [("raise", len(stair), thaw)] * (thaw > 0) + deeds + [("lower", pound, taken)] * (taken > 0)
                return told(stair, (levels, stand[1]), every) == EVER

            level = least_level(stair, stand, deeds, pound)
            self.assertIs(ever(level=stair[pound - 1][1]), level is not None)
            if level is not None:
                self.assertTrue(ever(level=level))
                if level > stair[pound - 1][0]:
                    seen["level"] += 1
                    self.assertFalse(ever(level=level - 1))
            thaw = least_thaw(stair, stand, deeds)
            self.assertIs(ever(thaw=10 ** 30), thaw is not None)
            if thaw is not None:
                self.assertTrue(ever(thaw=thaw))
                if thaw > 0:
                    seen["thaw"] += 1
                    self.assertFalse(ever(thaw=thaw - 1))
            taken = most_taken(stair, stand, deeds, pound)
            self.assertIs(ever(), taken is not None)
            if taken is not None:
                seen["taken"] += taken > 0
                self.assertTrue(ever(taken=taken))
                self.assertFalse(ever(taken=taken + 1))
            stones = stones_of(stair, deeds)
            seen["stones"] += stones > 0
            self.assertGreaterEqual(min(sums_of(stair, deeds)) + stones, 0)
            self.assertTrue(stones == 0 or min(sums_of(stair, deeds)) + stones - 1 < 0)
        self.assertGreater(min(seen.values()), 10, seen)

    def test_f_rounds_alike_from_all_levels(self):
        chance = random.Random(19)
        seen = {True: 0, False: 0}
        for turn in range(300):
            stair, stand, one = far_case(chance) if turn % 2 else some_case(chance)
            other = list(one)
            for step in range(chance.randint(0, 2)):
                if len(other) > 1:
                    at = chance.randrange(1, len(other))
                    other[at - 1], other[at] = other[at], other[at - 1]
            so, levels = alike(stair, one, other), parted_at(stair, one, other)
            seen[so] += 1
            self.assertIs(so, no_less(stair, one, other) and no_less(stair, other, one))
            if so:
                self.assertIs(levels, None)
                for levels in [low_levels(chance, stair, 10 ** chance.randint(0, 25)) for step in range(10)]:
                    many = chance.randint(0, FAR)
                    self.assertEqual(plain_deeds(stair, levels, one)[0], plain_deeds(stair, levels, other)[0])
                    self.assertEqual(far_levels(stair, levels, one, many), far_levels(stair, levels, other, many))
            else:
                self.assertNotEqual(plain_deeds(stair, levels, one)[0], plain_deeds(stair, levels, other)[0])
                self.assertTrue(all(level <= pound[1] for level, pound in zip(levels, stair)))
        self.assertGreater(min(seen.values()), 30, seen)

    def test_g_emptyings_told_by_what_lies_where(self):
        chance = random.Random(20)
        found = 0
        for house, plain, tour in houses(chance, 300):
            ending = tour_told(house, tour)
            many = chance.randint(0, FAR) if ending == EVER else ending[1]
            if answer_of(bare_of, house, tour)[0] != "ran":
                continue
            deeds = bare_of(house, tour)
            after = go(house, tour, many)
            n = len(house.stair)
            ran = [one - other for one, other in zip(after.ran(), house.ran())]
            book = [many * deeds.count(("empty", lock)) for lock in range(1, n + 1)]
            came = []
            for lock in range(1, n + 1):
                rain = sum(trip[2] for trip in tour if trip[0] == "rain" and trip[1] >= lock)
                draw = sum(trip[2] for trip in tour if trip[0] == "draw" and trip[1] >= lock)
                carry = sum(trip[3] * ((trip[2] >= lock) - (trip[1] >= lock)) for trip in tour if trip[0] == "carry")
                came.append(many * (rain - draw + carry) - ran[lock - 1])
            ahead, behind = (house.stand(), house.heaps()), (after.stand(), after.heaps())
            self.assertEqual(emptied(house.stair, ahead, behind, tuple(came)), book)
            self.assertEqual(false_in(house.stair, ahead, behind, tuple(came), tuple(book)), [])
            lock = chance.randint(1, n)
            book[lock - 1] += chance.choice([1, 5, FAR])
            self.assertEqual(false_in(house.stair, ahead, behind, tuple(came), tuple(book)), [lock])
            self.assertEqual(above(house.stair, *behind, lock) - above(house.stair, *ahead, lock),
                             came[lock - 1] - many * deeds.count(("empty", lock)) * house.stair[lock - 1][2])
            found += many > 10 ** 9 and deeds.count(("empty", lock)) > 0
        self.assertGreater(found, 10)

    def test_h_whatever_is_refused_all_is_as_it_was(self):
        chance = random.Random(21)
        refused = 0
        for house, plain, tour in houses(chance, 300):
            trip = some_trip(chance, plain, chance.choice([5, 10 ** 20]))
            for ask, handed in ((house.do, (trip,)), (go, (house, tour, FAR)), (bare_of, (house, tour))):
                ahead, was = repr(shown(house)), copy.deepcopy(handed[-1])
                if ask != house.do or plain.bar(trip) is not None:
                    refused += answer_of(ask, *handed)[0] != "ran"
                    self.assertEqual(repr(shown(house)), ahead)
                    self.assertEqual(handed[-1], was)
            yard = Yard(house)
            for word, handed in (("tours", (tour, FAR)), ("all_of", ([("rain", 1, 1)] + tour + [trip] * 9,))):
                if answer_of(getattr(yard, word), *handed)[0] == "ran":
                    self.assertIs(yard.undo(), True)
                self.assertEqual(repr(shown(yard.house())), repr(shown(house)))
                self.assertEqual(yard.deeds(), 0)
        self.assertGreater(refused, 200)

    def test_h_a_yard_behind_undone_deeds_is_as_one_made_anew(self):
        chance = random.Random(22)
        undone = 0
        for house, plain, tour in houses(chance, 150):
            yard, standing = Yard(house), []
            for step in range(20):
                word, handed = chance.choice([
                    ("do", (some_trip(chance, plain),)), ("tours", (tour, chance.choice([1, FAR]))),
                    ("all_of", ([some_trip(chance, plain), some_trip(chance, plain)],)), ("undo", ()),
                ])
                answer = answer_of(getattr(yard, word), *handed)
                if word == "undo":
                    self.assertIs(answer[1], standing != [])
                    undone += standing != []
                    standing = standing[:-1]
                elif answer[0] == "ran":
                    standing.append((word, handed))
            anew = Yard(house)
            for word, handed in standing:
                getattr(anew, word)(*handed)
            self.assertEqual(repr(shown(anew.house())), repr(shown(yard.house())))
            self.assertTrue(anew.house() == yard.house())
            self.assertEqual(anew.deeds(), yard.deeds())
            for word, handed in (("do", (some_trip(chance, plain),)), ("tours", (tour, 1))):
                self.assertEqual(answer_of(getattr(anew, word), *handed), answer_of(getattr(yard, word), *handed))
            self.assertEqual(repr(shown(anew.twin().house())), repr(shown(yard.house())))
        self.assertGreater(undone, 100)

    def test_courses_tours_and_far_rounds_tell_the_same(self):
        chance = random.Random(23)
        tried = 0
        for house, plain, tour in houses(chance, 200):
            if answer_of(bare_of, house, tour)[0] != "ran":
                continue
            tried += 1
            deeds, ending = bare_of(house, tour), tour_told(house, tour)
            many = chance.randint(0, FAR) if ending == EVER else ending[1]
            after = go(house, tour, many)
            course = [(deeds, many // 2), (deeds, many - many // 2)]
            self.assertIs(course_told(house.stair, house.stand(), course), None)
            self.assertEqual(course_end(house.stair, house.stand(), course), (after.stand(), after.ran()))
            if many < 9:
                self.assertEqual(gone(house.stair, house.stand(), deeds * many), (after.stand(), after.ran()))
            if ending != EVER and ending[0] == "dry":
                self.assertRaises(Dry, course_end, house.stair, house.stand(), [(deeds, many + 1)])
        self.assertGreater(tried, 80)
