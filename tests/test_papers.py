"""papercheck.py and papers.py: [12]."""

import copy
import random
import unittest

from liftwater.endings import told
from liftwater.papercheck import shows_dry, shows_ever
from liftwater.papers import dry_paper, ever_paper
from tests.plain import far_case, lasting_case, more_of, plain_deeds, plain_dry, plain_totals
from tests.things import any_things, as_lists

FAR = 10 ** 20
EVER = ("for ever",)
LOWS = ("low", "low")

# Pound 1 sinks by 2 a round until pound 2, rising by 3, runs over; behind 70 rounds all stands.
DIP = ((0, 60, 1), (0, 50, 1))
DIP_STAND = ((40, 0), LOWS)
DIP_ROUND = [("lower", 1, 2), ("raise", 2, 3)]

# Pound 2 sinks by 1 a round, and pound 1, fed by nothing, by 2.
SINK_STAND = ((40, 50), LOWS)
SINK_ROUND = [("lower", 2, 1), ("lower", 1, 2)]


def forms(stair, stand, deeds):
    return ((stair, stand, deeds), (as_lists(stair), as_lists(stand), as_lists(deeds)), (stair, stand, tuple(deeds)),
            (as_lists(stair), stand, tuple(as_lists(deeds))))


class PlainJudge:
    """The judge of papers again, gone through round by round, for small numbers only."""

    def __init__(self, stair, stand, deeds, rounds=120):
        self.stair, self.deeds, self.many = stair, deeds, len(stair)
        self.begins = [tuple(stand[0])]
        for step in range(rounds):
            self.begins.append(plain_deeds(stair, self.begins[-1], deeds)[0])

    def levels(self, many, place):
        return plain_deeds(self.stair, self.begins[many], self.deeds[:place])[0]

    def dry(self, many, place):
        pound, more = more_of(self.stair, self.deeds[place])
        return more < 0 and self.levels(many, place)[pound - 1] + more < self.stair[pound - 1][0]

    def let(self, rounds):
        return not any(self.dry(many, place) for many in range(rounds) for place in range(len(self.deeds)))

    def above(self, many, place, pound):
        return (plain_totals(self.levels(many, place)) + (0,))[pound]

    def step(self, many, place, pound):
        return self.above(many + 1, place, pound) - self.above(many, place, pound)

    def takes_list(self, place, numbers, last):
        if type(numbers) is not list:
            return False
        pound, more = more_of(self.stair, self.deeds[place])
        if more > 0:
            return numbers == []
        if any(type(number) is not int for number in numbers) or numbers != sorted(set(numbers)):
            return False
        if not numbers or numbers[0] != self.many or numbers[-1] != last:
            return False
        if any(self.dry(number, place) for number in numbers):
            return False
        return all(self.step(one, place, pound) == self.step(other - 1, place, pound)
                   for one, other in zip(numbers, numbers[1:]))

    def takes_lists(self, thing, last):
        return (type(thing) is list and len(thing) == len(self.deeds)
                and all(self.takes_list(place, numbers, last) for place, numbers in enumerate(thing)))

    def ever(self, thing):
        if type(thing) is not tuple or len(thing) != 2 or type(thing[0]) is not int or thing[0] < self.many:
            return False
        return (self.let(self.many) and self.begins[thing[0]] == self.begins[thing[0] + 1]
                and self.takes_lists(thing[1], thing[0]))

    def shows_dry(self, many, place, thing):
        if many < 0 or not self.dry(many, place) or any(self.dry(many, ahead) for ahead in range(place)):
            return False
        if many <= self.many:
            return type(thing) is list and thing == [] and self.let(many)
        return self.let(self.many) and self.takes_lists(thing, many - 1)


def other_numbers(numbers):
    """Lists of numbers, and others, that are a little otherwise."""
    yield from ([], tuple(numbers), None, 0, "", numbers + [numbers[-1] + 1] if numbers else [1])
    for at, number in enumerate(numbers):
        yield numbers[:at] + numbers[at + 1:]
        yield numbers[:at] + [number] + numbers[at:]
        for other in (number + 1, number - 1, True, None, str(number), [number], (number,)):
            yield numbers[:at] + [other] + numbers[at + 1:]
        if at > 0:
            yield numbers[:at - 1] + [number, numbers[at - 1]] + numbers[at + 1:]
            yield numbers[:at] + [(numbers[at - 1] + number) // 2] + numbers[at:]


def other_lists(lists):
    """Lists of such lists that are a little otherwise."""
    yield from ([], tuple(lists), lists + [[]], lists[:-1], None, [lists], lists[::-1])
    for at, numbers in enumerate(lists):
        for other in other_numbers(numbers):
            yield lists[:at] + [other] + lists[at + 1:]


def moved(lists, last, by):
    """The lists with their last number another by so much."""
    return [numbers[:-1] + [last + by] if numbers else [] for numbers in lists]


class ShowsEverTest(unittest.TestCase):
    def check(self, thing, so, stair=DIP, stand=DIP_STAND, deeds=DIP_ROUND):
        for handed in forms(stair, stand, deeds):
            with self.subTest(f"{handed!r} {thing!r}"):
                ahead = copy.deepcopy((handed, thing))
                self.assertIs(shows_ever(*handed, thing), so)
                self.assertEqual(repr((handed, thing)), repr(ahead))

    def test_right_ones(self):
        judge = PlainJudge(DIP, DIP_STAND, DIP_ROUND)
        last, lists = ever_paper(DIP, DIP_STAND, DIP_ROUND)
        self.assertIs(judge.ever((last, lists)), True)
        self.check((last, lists), True)
        self.check((last + 1, moved(lists, last, 1)), True)
        self.check((FAR, moved(lists, FAR, 0)), True)
        self.check((10 ** 40, moved(lists, 10 ** 40, 0)), True)
        self.check((last, [list(range(2, last + 1)), []]), True)

    def test_last_too_small(self):
        last, lists = ever_paper(DIP, DIP_STAND, DIP_ROUND)
        self.assertGreater(last, 10)
        self.check((last - 1, moved(lists, last, -1)), False)
        for less in range(-1, last):
            self.check((less, [list(range(2, less + 1)), []]), False)
            self.check((less, [list(range(0, less + 1)), []]), False)

    def test_last_that_is_not_the_lists_last(self):
        last, lists = ever_paper(DIP, DIP_STAND, DIP_ROUND)
        for other in (last + 1, last - 1, 2, 1, 0, -1, True, None, str(last), [last], (last,), FAR):
            self.check((other, lists), False)

    def test_a_bend_left_out(self):
        last, lists = ever_paper(DIP, DIP_STAND, DIP_ROUND)
        self.check((last, [[2, last], []]), False)

    def test_forms(self):
        last, lists = ever_paper(DIP, DIP_STAND, DIP_ROUND)
        for thing in ([last, lists], (last, tuple(lists)), (last, [tuple(lists[0]), []]), (last, [lists[0], ()]),
                      (last,), (last, lists, []), (lists, last), (last, lists[:1]), (last, lists + [[]]),
                      (last, [[], []]), (last, [lists[0], lists[0]]), (last, [[], lists[0]]), (last, [])):
            self.check(thing, False)

    def test_where_last_is_n(self):
        stair, stand, deeds = DIP, ((60, 50), LOWS), [("lower", 1, 2), ("raise", 2, 3)]
        self.check((2, [[2], []]), True, stair, stand, deeds)
        self.check((3, [[2, 3], []]), True, stair, stand, deeds)
        for thing in ((2, [[2, 2], []]), (2, [[], []]), (2, [[2, 3], []]), (2, [[1, 2], []]), (1, [[1], []]),
                      (0, [[0], []]), (3, [[3], []]), (3, [[2], []]), (2, [[2], [2]]), (2, [[3], []])):
            self.check(thing, False, stair, stand, deeds)

    def test_true_for_one(self):
        stair, stand, deeds = ((0, 9, 1),), ((9,), ("low",)), [("lower", 1, 1), ("raise", 1, 1)]
        self.check((1, [[1], []]), True, stair, stand, deeds)
        self.check((True, [[1], []]), False, stair, stand, deeds)
        self.check((1, [[True], []]), False, stair, stand, deeds)
        self.check((2, [[True, 2], []]), False, stair, stand, deeds)

    def test_no_deeds(self):
        self.check((2, []), True, DIP, DIP_STAND, [])
        self.check((9, []), True, DIP, DIP_STAND, [])
        for thing in ((1, []), (2, ()), (2, [[]]), [2, []], [], ()):
            self.check(thing, False, DIP, DIP_STAND, [])

    def test_the_first_rounds_must_be_let(self):
        # Dry in round 0 only, were it let there: behind it a raise has come.
        stair, deeds = ((0, 9, 1),), [("lower", 1, 5), ("raise", 1, 9)]
        self.check((1, [[1], []]), False, stair, ((4,), ("low",)), deeds)
        self.check((1, [[1], []]), True, stair, ((5,), ("low",)), deeds)

    def test_dry_at_one_of_the_numbers(self):
        for level in range(2, 61):
            stand = ((level, 0), LOWS)
            judge = PlainJudge(DIP, stand, DIP_ROUND)
            thing = (110, [list(range(2, 111)), []])
            self.check(thing, judge.ever(thing), DIP, stand, DIP_ROUND)
            self.assertEqual(judge.ever(thing), told(DIP, stand, DIP_ROUND) == EVER)

    def test_anything(self):
        last, lists = ever_paper(DIP, DIP_STAND, DIP_ROUND)
        for part in any_things():
            for thing in (part, (last, part), (part, lists), (last, [lists[0], part]), (last, [part, []])):
                self.check(thing, repr(thing) == repr((last, lists)))

    def test_beside_a_plain_judge(self):
        chance = random.Random(121)
        seen = {True: 0, False: 0}
        while min(seen.values()) < 300:
            stair, stand, deeds = lasting_case(chance, 30)
            paper = ever_paper(stair, stand, deeds)
            if paper is None or paper[0] > 80:
                continue
            judge = PlainJudge(stair, stand, deeds)
            last, lists = paper
            things = [paper, (last + 1, moved(lists, last, 1)), (last - 1, moved(lists, last, -1))]
            others = list(other_lists(lists))
            things += [(last, other) for other in chance.sample(others, min(25, len(others)))]
            for thing in things:
                so = judge.ever(thing)
                seen[so] += 1
                self.assertIs(shows_ever(stair, stand, deeds, thing), so, (stair, stand, deeds, thing))


class ShowsDryTest(unittest.TestCase):
    def check(self, many, place, thing, so, stair=DIP, stand=SINK_STAND, deeds=SINK_ROUND):
        for handed in forms(stair, stand, deeds):
            with self.subTest(f"{handed!r} {many} {place} {thing!r}"):
                ahead = copy.deepcopy((handed, thing))
                self.assertIs(shows_dry(*handed, many, place, thing), so)
                self.assertEqual(repr((handed, thing)), repr(ahead))

    def test_right_ones(self):
        self.assertEqual(told(DIP, SINK_STAND, SINK_ROUND), ("dry", 20, 1, 1))
        self.check(20, 1, dry_paper(DIP, SINK_STAND, SINK_ROUND), True)
        self.check(20, 1, [[2, 19], [2, 19]], True)
        self.check(20, 1, [list(range(2, 20)), [2, 5, 19]], True)

    def test_many_one_more_one_less_another_place(self):
        for many in (-1, 0, 1, 2, 18, 19, 21, 22, FAR):
            for place in (0, 1):
                self.check(many, place, [[2, 19], [2, 19]], False)
                self.check(many, place, [[2, many - 1], [2, many - 1]], False)
                self.check(many, place, [], False)
        self.check(20, 0, [[2, 19], [2, 19]], False)
        self.check(20, 2, [[2, 19], [2, 19]], False)
        self.check(20, -1, [[2, 19], [2, 19]], False)

    def test_lists_that_end_elsewhere(self):
        for last in (2, 18, 20, 21):
            self.check(20, 1, [[2, last], [2, last]], False)
            self.check(20, 1, [[2, 19], [2, last]], False)
            self.check(20, 1, [[2, last], [2, 19]], False)
        for first in (0, 1, 3, True):
            self.check(20, 1, [[first, 19], [2, 19]], False)

    def test_forms(self):
        for thing in ([], (), None, ([2, 19], [2, 19]), [(2, 19), [2, 19]], [[2, 19]], [[2, 19], [2, 19], []],
                      [[], [2, 19]], [[2, 19], []], [[2, 2, 19], [2, 19]], [[19, 2], [2, 19]], (19, [[2, 19], [2, 19]]),
                      [[2, 19], [2, 19, 19]], [[2, "9", 19], [2, 19]], [[2, None, 19], [2, 19]]):
            self.check(20, 1, thing, False)

    def test_a_deed_that_does_not_ask(self):
        deeds = [("lower", 2, 1), ("raise", 1, 1), ("lower", 1, 3)]
        self.assertEqual(told(DIP, SINK_STAND, deeds), ("dry", 20, 2, 1))
        self.check(20, 2, [[2, 19], [], [2, 19]], True, DIP, SINK_STAND, deeds)
        self.check(20, 2, [[2, 19], [2, 19], [2, 19]], False, DIP, SINK_STAND, deeds)
        self.check(20, 1, [[2, 19], [], [2, 19]], False, DIP, SINK_STAND, deeds)

    def test_many_at_most_n_takes_the_bare_list_only(self):
        for level in range(0, 8):
            stand = ((60, level), LOWS)
            deeds = [("lower", 2, 1)]
            self.assertEqual(told(DIP, stand, deeds), ("dry", level, 0, 2))
            bare = level <= 2
            self.check(level, 0, [], bare, DIP, stand, deeds)
            for thing in ((), [[]], None, [[2]], [[2, 2]], (2, [[2]]), [[level - 1]], "", 0, False):
                self.check(level, 0, thing, level == 3 and thing == [[2]], DIP, stand, deeds)
            if level > 3:
                self.check(level, 0, [[2, level - 1]], True, DIP, stand, deeds)

    def test_the_rounds_ahead_must_be_let(self):
        # Dry in round 0 already; so no later round is shown to be the first, though the deed is dry there too.
        stair, stand, deeds = ((0, 9, 1),), ((0,), ("low",)), [("lower", 1, 1)]
        self.check(0, 0, [], True, stair, stand, deeds)
        self.check(1, 0, [], False, stair, stand, deeds)
        self.check(2, 0, [[1]], False, stair, stand, deeds)
        self.check(3, 0, [[1, 2]], False, stair, stand, deeds)
        # In round 0 only, in none up to the fifth.
        stair, stand, deeds = DIP, ((1, 50), LOWS), [("lower", 1, 2), ("raise", 1, 9), ("lower", 2, 9), ("lower", 1, 1)]
        judge = PlainJudge(stair, stand, deeds)
        self.assertTrue(judge.dry(0, 0) and judge.dry(5, 2) and not judge.dry(4, 2))
        self.check(5, 2, [[2, 3, 4], [], [2, 3, 4], [2, 3, 4]], False, stair, stand, deeds)
        self.check(5, 2, [[2, 3, 4], [], [2, 3, 4], [2, 3, 4]], True, stair, ((2, 50), LOWS), deeds)

    def test_deeds_ahead_in_the_same_round_must_be_let(self):
        stand, deeds = ((9, 9), LOWS), [("lower", 2, 1), ("lower", 1, 1)]
        self.check(9, 0, [[2, 8], [2, 8]], True, DIP, stand, deeds)
        self.check(9, 1, [[2, 8], [2, 8]], False, DIP, stand, deeds)
        stand = ((1, 1), LOWS)
        self.check(1, 0, [], True, DIP, stand, deeds)
        self.check(1, 1, [], False, DIP, stand, deeds)

    def test_no_deeds(self):
        for thing in ([], (), [[]], None):
            for many in (0, 1, 2, 3, FAR):
                self.check(many, 0, thing, False, DIP, DIP_STAND, [])

    def test_anything(self):
        for part in any_things():
            for thing in (part, [part, part], [[2, 19], part], [part, [2, 19]], [[2, part, 19], [2, 19]]):
                so = thing == [[2, 7, 19], [2, 19]]
                self.check(20, 1, thing, so)
            self.check(0, 0, part, repr(part) == "[]", DIP, ((0, 0), LOWS), SINK_ROUND)

    def test_beside_a_plain_judge(self):
        chance = random.Random(122)
        seen = {True: 0, False: 0}
        far = 0
        while min(seen.values()) < 300 or far < 40:
            stair, stand, deeds = lasting_case(chance, 60)
            answer = told(stair, stand, deeds)
            if answer == EVER or answer[1] > 80:
                continue
            many, place = answer[1], answer[2]
            paper = dry_paper(stair, stand, deeds)
            judge = PlainJudge(stair, stand, deeds)
            far += many > len(stair)
            others = list(other_lists(paper))
            asks = [(many, place, thing) for thing in [paper] + chance.sample(others, min(15, len(others)))]
            asks += [(many + by, place, moved(paper, many - 1, by)) for by in (-1, 0, 1)]
            asks += [(many + by, other, thing) for by in (-1, 0, 1) for other in range(len(deeds))
                     for thing in ([], paper)]
            for ask in asks:
                so = judge.shows_dry(*ask)
                seen[so] += 1
                self.assertIs(shows_dry(stair, stand, deeds, *ask), so, (stair, stand, deeds, ask))


class PapersTest(unittest.TestCase):
    def right(self, stair, stand, deeds):
        """Whether just that paper is made and taken which told asks for, and the other kind isn't."""
        answer = told(stair, stand, deeds)
        for handed in forms(stair, stand, deeds):
            ahead = copy.deepcopy(handed)
            ever, dry = ever_paper(*handed), dry_paper(*handed)
            self.assertEqual(repr(handed), repr(ahead))
            if answer == EVER:
                self.assertIs(dry, None)
                self.assertIs(shows_ever(*handed, ever), True, handed)
            else:
                self.assertIs(ever, None)
                self.assertIs(shows_dry(*handed, answer[1], answer[2], dry), True, handed)
                self.assertIs(shows_dry(*handed, answer[1] + 1, answer[2], dry), False)
        return answer

    def test_near_ones(self):
        chance = random.Random(123)
        seen = {True: 0, False: 0}
        for turn in range(300):
            seen[self.right(*lasting_case(chance)) == EVER] += 1
        self.assertGreater(min(seen.values()), 50)

    def test_far_ones(self):
        chance = random.Random(124)
        ever = far = 0
        for turn in range(150):
            answer = self.right(*far_case(chance))
            ever += answer == EVER
            far += answer != EVER and answer[1] > 10 ** 15
        self.assertGreater(min(ever, far), 30)

    def test_by_hand(self):
        self.assertEqual(self.right(DIP, DIP_STAND, DIP_ROUND), EVER)
        self.assertEqual(self.right(DIP, SINK_STAND, SINK_ROUND), ("dry", 20, 1, 1))
        self.assertEqual(self.right(DIP, DIP_STAND, []), EVER)
        self.assertEqual(self.right(DIP, DIP_STAND, [("lower", 2, 1)]), ("dry", 0, 0, 2))
        self.assertEqual(self.right(((0, FAR, 1),), ((FAR,), ("low",)), [("lower", 1, 1)]), ("dry", FAR, 0, 1))
        self.assertEqual(self.right(((0, FAR, 1),), ((0,), ("low",)), [("raise", 1, 3), ("lower", 1, 2)]), EVER)

    def test_never_both(self):
        # A paper of the one kind is none of the other, whatever is asked of it.
        chance = random.Random(125)
        for turn in range(200):
            stair, stand, deeds = lasting_case(chance)
            ever, dry = ever_paper(stair, stand, deeds), dry_paper(stair, stand, deeds)
            if ever is None:
                for last in range(len(stair), len(stair) + 40):
                    whole = [list(range(len(stair), last + 1)) if more_of(stair, deed)[1] < 0 else [] for deed in deeds]
                    self.assertIs(shows_ever(stair, stand, deeds, (last, whole)), False)
            else:
                for many in range(0, len(stair) + 6):
                    whole = [list(range(len(stair), many)) if more_of(stair, deed)[1] < 0 else [] for deed in deeds]
                    for place in range(len(deeds)):
                        for thing in ([], whole, ever[1]):
                            self.assertIs(shows_dry(stair, stand, deeds, many, place, thing), False)

    def test_changing_what_is_told_changes_no_other_answer(self):
        last, lists = ever_paper(DIP, DIP_STAND, DIP_ROUND)
        ahead = copy.deepcopy((last, lists))
        lists[0].clear()
        lists.clear()
        self.assertEqual(ever_paper(DIP, DIP_STAND, DIP_ROUND), ahead)
