"""desk.py: [21]."""

import copy
import random
import unittest

from liftwater.desk import run
from liftwater.errors import BadRow
from tests.boats import PlainHouse, parts_of_house, some_tour, some_trip

FAR = 10 ** 19 - 1
HEAD = ["stair 1/10/4 2/8/3", "stand 10- 8-", "heaps 7 5 3"]
BOATS = ["boat cod 2", "boat anna 0"]


class DeskCase(unittest.TestCase):
    def check(self, rows, answers, head=tuple(HEAD + BOATS)):
        """Rows behind a head, each beside its answer."""
        for form in (list, tuple):
            handed = form(list(head) + rows)
            ahead = copy.deepcopy(handed)
            with self.subTest(repr(rows)):
                self.assertEqual(repr(run(handed)), repr(["done"] * len(head) + answers))
                self.assertEqual(repr(run(handed)), repr(["done"] * len(head) + answers))
                self.assertEqual(handed, ahead)

    def wrong(self, rows, number):
        for form in (list, tuple):
            with self.subTest(repr(rows)):
                handed = form(rows)
                with self.assertRaises(BadRow) as caught:
                    run(handed)
                self.assertIs(caught.exception.__class__, BadRow)
                self.assertEqual(vars(caught.exception), {"what": number})
                self.assertEqual(list(handed), list(rows))

    def wrong_behind(self, row, head=tuple(HEAD + BOATS)):
        """The row is wrong, wherever it stands behind the head."""
        self.wrong(list(head) + [row], len(head))
        self.wrong(list(head) + ["levels", row, "levels"], len(head) + 1)


class AnswersTest(DeskCase):
    def test_the_head_alone(self):
        self.check([], [], HEAD)
        self.check([], [])
        self.check([], [], ["stair 0/0/1", "stand 0-", "heaps 0 0"])
        self.check([], [], ["stair 0/0/1", "stand 0+", f"heaps {FAR} 0", "boat a 1", "boat b 1", "boat c 0"])

    def test_the_stand(self):
        for stand, levels, turned in (("10- 8-", "10 8", "6 8"), ("10+ 8-", "10 8", "10 8"), ("1- 2+", "1 2", None)):
            rows = ["levels", "turn 1", "levels"]
            behind = ["refused Dry", levels] if turned is None else ["0 0", turned]
            self.check(rows, [levels] + behind, [HEAD[0], f"stand {stand}", HEAD[2]])
        self.check(["turn 2", "levels"], ["3 0", "10 8"], [HEAD[0], "stand 10- 8+", HEAD[2]])

    def test_trips(self):
        self.check(["up anna 1", "boats?", "levels"], ["0 0", "anna:1:0 cod:2:0", "6 8"])
        self.check(["turn 2", "down cod 2", "boats?"], ["0 0", "3 0", "anna:0:0 cod:1:0"])
        self.check(["load cod 3", "boats?", "heaps?", "ran"], ["3 3", "anna:0:0 cod:2:3", "7 5 0", "3 3"])
        self.check(["load cod 3", "unload cod 2", "levels", "heaps?"], ["3 3", "0 0", "10 6", "7 5 2"])
        self.check(["carry 0 2 7", "heaps?"], ["0 0", "0 5 10"])
        self.check(["draw 2 6", "rain 2 9", "levels", "ran"], ["0 0", "3 3", "10 8", "3 3"])
        self.check([f"rain 1 {FAR}", "ran"], [f"{FAR} 0", f"{FAR} 0"])

    def test_refused(self):
        self.check(["up nobody 1", "up cod 1", "turn 1", "up anna 1", "load cod 4", "unload anna 1", "draw 2 7"],
                   ["refused NoBoat", "refused Astray", "0 0", "refused Shut", "refused Lack", "refused Light",
                    "refused Dry"])
        self.check(["down nobody 2", "load nobody 1", "unload nobody 1"], ["refused NoBoat"] * 3)

    def test_all_as_it_was_behind_a_refusal(self):
        asked = ["levels", "heaps?", "boats?", "ran"]
        answers = ["10 8", "7 5 3", "anna:0:0 cod:2:0", "0 0"]
        for row, answer in (("draw 2 7", "refused Dry"), ("load cod 4", "refused Lack"), ("undo", "no"),
                            ("tours 7 draw 2 1", "refused Dry"), ("tours 2 turn 2", "refused NoTour"),
                            ("told draw 2 1", "dry 6 0 2"), ("tours 8 carry 0 1 1", "refused Lack")):
            self.check([row] + asked + ["undo"], [answer] + answers + ["no"])

    def test_tours(self):
        self.check(["tours 1 rain 1 4 ; up anna 1 ; down anna 1", "levels"], ["4 0", "6 8"])
        self.check([f"tours {FAR} rain 1 4 ; up anna 1 ; down anna 1", "levels"], ["4 0", "6 8"])
        self.check([f"tours {FAR} rain 2 5", "ran", "undo", "ran"], [f"{5 * FAR} {5 * FAR}"] * 2 + ["yes", "0 0"])
        self.check(["tours 0 draw 2 9", "undo", "undo"], ["0 0", "yes", "no"])
        self.check(["tours 6 draw 2 1", "levels", "tours 1 draw 2 1"], ["0 0", "10 2", "refused Dry"])
        self.check(["tours 3 carry 0 2 2", "heaps?", "tours 1 carry 0 2 2"], ["0 0", "1 5 9", "refused Lack"])

    def test_very_many_tours_in_many_rows(self):
        row = f"tours {FAR} rain 2 {FAR} ; rain 1 1"
        ran = FAR * FAR
        self.check([row] * 50 + ["ran"], [f"{ran + FAR} {ran}"] * 50 + [f"{50 * (ran + FAR)} {50 * ran}"])

    def test_told(self):
        self.check(["told rain 1 4 ; up anna 1 ; down anna 1", "told carry 0 1 2", "told rain 1 1 ; draw 2 1",
                    "told turn 2 ; turn 2", "levels"],
                   ["for ever", "lack 3 0 0", "dry 6 1 2", "dry 2 0 2", "10 8"])
        self.check([f"tours {FAR} carry 0 2 1"] + ["told carry 1 0 5"], ["refused Lack", "lack 1 0 1"])

    def test_no_tour(self):
        for trips in ("turn 1", "up anna 1", "up anna 1 ; turn 1", "load cod 1", "unload cod 1 ; load cod 1",
                      "down cod 2 ; up cod 2", "up nobody 1 ; down nobody 1", "load nobody 1 ; unload nobody 1"):
            self.check([f"tours 1 {trips}", f"tours 0 {trips}", f"told {trips}", "undo"],
                       ["refused NoTour"] * 3 + ["no"])

    def test_no_tour_ahead_of_dry_and_lack(self):
        self.check(["tours 9 draw 2 9 ; turn 1", "told carry 0 1 99 ; turn 1"], ["refused NoTour"] * 2)

    def test_undo(self):
        self.check(["undo", "turn 1", "turn 2", "load cod 1", "undo", "heaps?", "undo", "undo", "undo", "levels"],
                   ["no", "0 0", "0 0", "0 0", "yes", "7 5 3", "yes", "yes", "no", "10 8"])
        self.check(["turn 1", "draw 1 9", "levels", "undo", "undo", "boats?"],
                   ["0 0", "refused Dry", "6 8", "yes", "no", "anna:0:0 cod:2:0"])

    def test_no_boats(self):
        self.check(["boats?", "up anna 1", "told up anna 1 ; down anna 1", "tours 1 up anna 1 ; down anna 1"],
                   ["-", "refused NoBoat", "refused NoTour", "refused NoTour"], HEAD)

    def test_boats_called_like_words_of_rows(self):
        names = ["undo", "tours", "told", "levels", "ran", "boat", "stair", "stand", "heaps", "up", "turn", "load"]
        head = HEAD + [f"boat {name} 0" for name in names]
        for name in names:
            self.check([f"load {name} 2", f"up {name} 1", f"told turn 1 ; up {name} 2", "levels"],
                       ["0 0", "0 0", "refused NoTour", "6 8"], head)
            self.check([f"tours 2 rain 1 4 ; up {name} 1 ; down {name} 1"], ["4 0"], head)
        told = " ".join(f"{name}:0:0" for name in sorted(names))
        self.check(["boats?"], [told], head)

    def test_one_pound(self):
        head = ["stair 0/9/2", "stand 9-", "heaps 4 0", "boat a 0"]
        self.check(["load a 4", "up a 1", "unload a 4", "boats?", "heaps?", "levels", "told turn 1 ; turn 1"],
                   ["0", "0", "0", "a:1:0", "0 4", "3", "dry 1 1 1"], head)

    def test_six_pounds(self):
        head = ["stair " + " ".join(["0/9/1"] * 6), "stand " + " ".join(["9-"] * 6), "heaps 0 0 0 0 0 0 0", "boat a 6"]
        self.check(["turn 6", "down a 6", "rain 6 1", "levels", "ran"],
                   ["0 0 0 0 0 0", "1 1 1 1 1 0", "0 0 0 0 0 0", "9 9 9 9 9 9", "1 1 1 1 1 0"], head)


class WrongRowsTest(DeskCase):
    def test_no_rows_and_too_few(self):
        self.wrong([], 0)
        self.wrong(HEAD[:1], 1)
        self.wrong(HEAD[:2], 2)

    def test_too_few_and_a_wrong_one(self):
        self.wrong(["stand 10- 8-"], 0)
        self.wrong([""], 0)
        self.wrong([HEAD[0], "stand 10-"], 1)
        self.wrong(["undo", HEAD[1]], 0)

    def test_stairs(self):
        for row in ("", "stair", "stair ", " stair 1/10/4 2/8/3", "stair  1/10/4 2/8/3", "stair 1/10/4 2/8/3 ",
                    "stair 1/10/4  2/8/3", "stair 1/10 2/8/3", "stair 11/10/4 2/8/3", "stair 1/10/0 2/8/3",
                    "stair 01/10/4 2/8/3", "stair 1/10/4 2/8/10000000000000000000", "Stair 1/10/4 2/8/3",
                    "1/10/4 2/8/3", "stairs 1/10/4 2/8/3", "stair 1/10/4\n2/8/3", "stair -1/10/4 2/8/3", "levels",
                    "stand 10- 8-", "boat a 1", "up a 1"):
            self.wrong([row] + HEAD[1:] + BOATS, 0)

    def test_stands(self):
        for row in ("", "stand", "stand ", "stand 10-", "stand 10- 8- 3-", "stand 10 8", "stand 10- 8", "stand 10-8-",
                    "stand 11- 8-", "stand 0- 8-", "stand 10- 9-", "stand 10- 1-", "stand 10- 08-", "stand 10- +8",
                    "stand 10-  8-", "stand 10- 8- ", " stand 10- 8-", "stand 10- -8-", "stand - -", "stand + +",
                    "stand 10-- 8-", "stand 10* 8-", "stand 10- 8-\n", "Stand 10- 8-", "10- 8-", "levels",
                    "stand 10- 80000000000000000000-", "heaps 7 5 3", "stair 1/10/4 2/8/3", "boat a 1"):
            self.wrong([HEAD[0], row, HEAD[2]] + BOATS, 1)

    def test_heaps(self):
        for row in ("", "heaps", "heaps ", "heaps 7 5", "heaps 7 5 3 1", "heaps 7  5 3", "heaps 7 5 3 ", " heaps 7 5 3",
                    "heaps 7 5 03", "heaps 7 5 -3", "heaps 7 5 +3", "heaps 7 5 a", "heaps 7 5 10000000000000000000",
                    "heaps? 7 5 3", "heaps?", "heaps 7 5\n3", "7 5 3", "boat a 1", "stand 10- 8-"):
            self.wrong(HEAD[:2] + [row] + BOATS, 2)

    def test_boats(self):
        for row in ("boat", "boat ", "boat a", "boat a ", "boat a 3", "boat a 03", "boat a -1", "boat A 1", "boat a1 1",
                    "boat abcdefghi 1", "boat  1", "boat a  1", "boat a 1 ", " boat a 1", "boat a 1 1", "boat a b",
                    "boat 1 a", "boat anna 1", "boat anna 0", "boat cod 2", "boat a 20", "boat a 1\n", "boats a 1"):
            self.wrong(HEAD + BOATS + [row], 5)
            self.wrong(HEAD + BOATS + [row, "levels"], 5)
            if "anna" not in row and "cod" not in row:
                self.wrong(HEAD + [row] + BOATS, 3)

    def test_a_boat_twice_is_the_later_row(self):
        self.wrong(HEAD + ["boat a 1", "boat b 1", "boat a 0", "boat b 0"], 5)

    def test_a_boat_row_behind_others(self):
        for row in ("levels", "undo", "turn 1", "told turn 1 ; turn 1", "draw 1 99"):
            self.wrong(HEAD + BOATS + [row, "boat a 1"], 6)
            self.wrong(HEAD + [row, "boat a 1"], 4)

    def test_rows_of_the_head_again(self):
        for row in HEAD:
            self.wrong_behind(row)
            self.wrong(HEAD + [row], 3)
        self.wrong([HEAD[1], HEAD[0], HEAD[2]], 0)
        self.wrong([HEAD[0], HEAD[2], HEAD[1]], 1)
        self.wrong([HEAD[0], HEAD[1], BOATS[0], HEAD[2]], 2)

    def test_rows_not_so_written(self):
        for row in ("", " ", "undo ", " undo", "undo 1", "Undo", "levels ", "levels 1", "level", "heaps", "boats",
                    "heaps ?", "boats? 1", "ran ran", "rains", "done", "-", ";", "up anna", "up anna 1 ", "up  anna 1",
                    "up anna 01", "up anna 1 ; down anna 1", "turn 1 ;", "load anna 0", "carry 1 1 1", "rain 0 1",
                    "turn 0", "turn 21", "up Anna 1", "up abcdefghi 1", "rain 1 10000000000000000000", "fill 1",
                    "levels\n", "undo\n", "turn 1\n", "tours", "told"):
            self.wrong_behind(row)

    def test_tours_and_told_not_so_written(self):
        for trips in ("", " ", ";", " ; ", "turn 1 ;", "turn 1 ; ", "; turn 1", "turn 1; turn 1", "turn 1 ;turn 1",
                      "turn 1 turn 1", "turn 1  ;  turn 1", "turn 1 ; ; turn 1", "turn 1 ;  turn 1", "turn 1 ; undo",
                      "turn 1 ; turn", "turn 1 , turn 1", " turn 1", "turn 1 ", "fill 1", "undo", "turn 1 ; turn 01",
                      "tours 1 turn 1", "told turn 1", "turn 1 ; tours 1 turn 1"):
            self.wrong_behind(f"tours 1 {trips}")
            self.wrong_behind(f"told {trips}")
        for number in ("", "01", "-1", "+1", "a", "1.0", "10000000000000000000", "1 1", " 1", "1 "):
            self.wrong_behind(f"tours {number} turn 1 ; turn 1")
        self.wrong_behind("tours turn 1 ; turn 1")
        self.wrong_behind("told 1 turn 1 ; turn 1")
        self.wrong_behind("tours 1")

    def test_locks_quays_and_pounds_beyond(self):
        for trip in ("turn 3", "turn 20", "up anna 3", "down cod 3", "rain 3 1", "draw 3 1", "carry 0 3 1",
                     "carry 3 0 1", "up nobody 3", "carry 20 19 1"):
            self.wrong_behind(trip)
            self.wrong_behind(f"tours 0 {trip}")
            self.wrong_behind(f"told {trip}")
            self.wrong_behind(f"told turn 1 ; {trip}")
            self.wrong_behind(f"tours 1 {trip} ; turn 1")
        self.check(["carry 0 2 1", "carry 2 0 1", "rain 2 1", "turn 2"], ["0 0", "0 0", "1 1", "0 0"])

    def test_the_first_of_several(self):
        self.wrong(["stair", "stand", "heaps", "boat", "x"], 0)
        self.wrong([HEAD[0], "stand", "heaps", "boat", "x"], 1)
        self.wrong(HEAD[:2] + ["heaps", "boat", "x"], 2)
        self.wrong(HEAD + ["boat", "x"], 3)
        self.wrong(HEAD + BOATS + ["levels", "x", "y", "boat a 1"], 6)
        self.wrong(HEAD + ["boat a 1", "boat a 1", "boat", "x"], 4)

    def test_ahead_of_all_answers(self):
        self.wrong(HEAD + BOATS + ["draw 1 99"] * 50 + ["x"], 55)

    def test_wrong_by_chance(self):
        chance = random.Random(211)
        words = "stair stand heaps boat tours told undo levels heaps? boats? ran turn up ; 1 2 0 a 10- 1/2/3".split()
        for turn in range(500):
            row = " ".join(chance.choice(words) for part in range(chance.randint(1, 6)))
            try:
                answers = run(HEAD + ["levels", row])
            except BadRow as refusal:
                self.assertEqual(refusal.what, 4)
            else:
                self.assertEqual(answers[:4], ["done", "done", "done", "10 8"])
                self.assertEqual(len(answers), 5)


def text_of(parts):
    """The rows that a house's parts come to."""
    stair, (levels, chambers), heaps, boats = parts
    signs = {"low": "-", "high": "+"}
    return (["stair " + " ".join("/".join(map(str, pound)) for pound in stair),
             "stand " + " ".join(f"{level}{signs[chamber]}" for level, chamber in zip(levels, chambers)),
             "heaps " + blanks(heaps)] + [f"boat {name} {place}" for name, place in boats])


def blanks(parts):
    return " ".join(map(str, parts))


class PlainDesk:
    """Answers by plain doing, trip by trip."""

    def __init__(self, parts):
        self.past = [PlainHouse(*parts)]

    def answer(self, word, trips=(), many=0):
        now = self.past[-1]
        if word == "undo":
            self.past = self.past[:-1] or self.past
            return "no" if now is self.past[-1] else "yes"
        if word == "do":
            return self.deed(lambda after: after.told(trips, 1))
        if word == "tours":
            return self.deed(lambda after: after.told(trips, many)) if self.is_tour(trips) else "refused NoTour"
        if word == "told":
            first = copy.deepcopy(now).told(trips, 80)
            ending = "for ever" if first is None else blanks([first[2][0].lower(), *first[:2], first[2][1]])
            return ending if self.is_tour(trips) else "refused NoTour"
        shown = {"levels": now.levels, "heaps?": now.heaps, "ran": now.ran,
                 "boats?": [f"{name}:{place}:{aboard}" for name, (place, aboard) in sorted(now.boats.items())] or ["-"]}
        return blanks(shown[word])

    def deed(self, go):
        after = copy.deepcopy(self.past[-1])
        first = go(after)
        if first is not None:
            return f"refused {first[2][0]}"
        ran = blanks(one - other for one, other in zip(after.ran, self.past[-1].ran))
        self.past.append(after)
        return ran

    def is_tour(self, trips):
        now = copy.deepcopy(self.past[-1])
        now.loose = True
        let = all(now.do(trip)[0] == "ran" for trip in trips)
        return let and now.boats == self.past[-1].boats and now.chambers == self.past[-1].chambers


class BesidePlainTest(unittest.TestCase):
    def some_row(self, chance, plain):
        """The triple (text, word, what it's asked with) of a row."""
        word = chance.choice(["do"] * 5 + ["tours", "told"] * 2 + ["undo", "levels", "heaps?", "boats?", "ran"])
        if word == "do":
            trip = some_trip(chance, plain)
            return blanks(trip), word, ([trip],)
        if word not in ("tours", "told"):
            return word, word, ()
        trips = some_tour(chance, plain) or [("rain", 1, 1)]
        if chance.random() < 0.2:
            trips.append(some_trip(chance, plain))
        text = " ; ".join(blanks(trip) for trip in trips)
        many = chance.choice([0, 1, 2, 9])
        return (f"told {text}", word, (trips,)) if word == "told" else (f"tours {many} {text}", word, (trips, many))

    def test_many(self):
        chance = random.Random(212)
        seen = {}
        for turn in range(250):
            parts = parts_of_house(chance, wide=chance.choice([3, 9]), goods=9)
            desk = PlainDesk(parts)
            rows = text_of(parts)
            answers = ["done"] * len(rows)
            for step in range(20):
                text, word, asked = self.some_row(chance, desk.past[-1])
                rows.append(text)
                answers.append(desk.answer(word, *asked))
                key = word, answers[-1] if answers[-1].startswith("refused") else answers[-1].split(" ")[0].isalpha()
                seen[key] = seen.get(key, 0) + 1
            self.assertEqual(run(rows), answers)
        self.assertGreater(min(seen.values()), 3, seen)
        self.assertGreater(len(seen), 15)
