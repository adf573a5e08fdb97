"""A plain house, done trip by trip by its own short rules, and houses, trips and tours that a fixed seed brings."""

import copy

from liftwater.house import House
from tests.plain import overrun, some_stair, some_stand

NAMES = ("anna", "b", "cod", "up", "zzzzzzzz", "undo")


class PlainHouse:
    """What House promises, written out plainly: do tells ("ran", tuple), or the refusal's name and what it's of."""

    def __init__(self, stair, stand, heaps, boats):
        self.stair = stair
        self.levels, self.chambers = list(stand[0]), list(stand[1])
        self.heaps = list(heaps)
        self.boats = {name: [place, 0] for name, place in boats}
        self.ran = [0] * len(stair)
        self.loose = False

    def bar(self, trip):
        """The first bar in the document's order, or None; in a loose house no heap lacks and no pound is dry."""
        word = trip[0]
        if word in ("up", "down", "load", "unload") and trip[1] not in self.boats:
            return "NoBoat", trip[1]
        if word in ("up", "down") and self.boats[trip[1]][0] != trip[2] - (word == "up"):
            return "Astray", trip[1]
        if word == "up" and self.chambers[trip[2] - 1] == "high":
            return "Shut", trip[2]
        if word == "down" and self.chambers[trip[2] - 1] == "low":
            return "Shut", trip[2]
        if word == "load" and not self.loose and self.heaps[self.boats[trip[1]][0]] < trip[2]:
            return "Lack", self.boats[trip[1]][0]
        if word == "carry" and not self.loose and self.heaps[trip[1]] < trip[3]:
            return "Lack", trip[1]
        if word == "unload" and self.boats[trip[1]][1] < trip[2]:
            return "Light", trip[1]
        for pound, more in self.changes(trip):
            if more < 0 and not self.loose and self.levels[pound - 1] + more < self.stair[pound - 1][0]:
                return "Dry", pound
        return None

    def changes(self, trip):
        """The list of (pound, more), bare where no pound is changed."""
        word = trip[0]
        if word in ("up", "down", "turn"):
            lock = trip[-1]
            if self.chambers[lock - 1] == "low":
                return [(lock, -self.stair[lock - 1][2])]
            return [(lock - 1, self.stair[lock - 1][2])] if lock > 1 else []
        if word in ("load", "unload"):
            place = self.boats[trip[1]][0]
            return [(place, trip[2] if word == "load" else -trip[2])] if place > 0 else []
        if word == "carry":
            return []
        return [(trip[1], trip[2] if word == "rain" else -trip[2])]

    def do(self, trip):
        bar = self.bar(trip)
        if bar is not None:
            return bar
        for pound, more in self.changes(trip):
            self.levels[pound - 1] += more
        self.levels, ran = overrun(self.stair, self.levels)
        self.ran = [one + other for one, other in zip(self.ran, ran)]
        self.move(trip)
        return "ran", tuple(ran)

    def move(self, trip):
        word = trip[0]
        if word in ("up", "down", "turn"):
            lock = trip[-1]
            self.chambers[lock - 1] = "high" if self.chambers[lock - 1] == "low" else "low"
        if word == "up":
            self.boats[trip[1]][0] += 1
        if word == "down":
            self.boats[trip[1]][0] -= 1
        if word in ("load", "unload"):
            many = trip[2] if word == "load" else -trip[2]
            self.boats[trip[1]][1] += many
            self.heaps[self.boats[trip[1]][0]] -= many
        if word == "carry":
            self.heaps[trip[1]] -= trip[3]
            self.heaps[trip[2]] += trip[3]

    def shown(self):
        return ((tuple(self.levels), tuple(self.chambers)), tuple(self.heaps), tuple(self.ran),
                sorted((name, place, aboard) for name, (place, aboard) in self.boats.items()))

    def told(self, trips, tours):
        """(many, place, bar) of the first trip refused within so many tours, or None; it has gone so far."""
        for many in range(tours):
            for place, trip in enumerate(trips):
                told = self.do(trip)
                if told[0] != "ran":
                    return many, place, told
        return None


def shown(house):
    """All that a House shows."""
    return house.stand(), house.heaps(), house.ran(), house.boats()


def answer_of(ask, *handed):
    """("ran", what it tells), or the very class's name of the refusal and its field."""
    try:
        return "ran", ask(*handed)
    except (ValueError, LookupError, RuntimeError, ArithmeticError) as refusal:
        assert vars(refusal) == {"what": refusal.what}
        return refusal.__class__.__name__, refusal.what


def parts_of_house(chance, pounds=None, wide=6, goods=6):
    """What a House is made of."""
    stair = some_stair(chance, pounds, wide)
    heaps = tuple(chance.choice([0, chance.randint(0, goods)]) for at in range(len(stair) + 1))
    names = chance.sample(NAMES, chance.randint(0, 4))
    return stair, some_stand(chance, stair), heaps, tuple((name, chance.randint(0, len(stair))) for name in names)


def some_trip(chance, plain, weight=5):
    """A trip whose lock, quays and pound are there, often let."""
    n = len(plain.stair)
    word = chance.choice(["up", "up", "down", "down", "turn", "load", "unload", "carry", "rain", "draw"])
    boat = chance.choice(sorted(plain.boats) * 4 + ["nobody"])
    many = chance.randint(1, weight)
    if word in ("up", "down"):
        place = plain.boats.get(boat, [chance.randint(0, n)])[0] + (word == "up")
        return word, boat, place if 1 <= place <= n and chance.random() < 0.85 else chance.randint(1, n)
    if word == "turn":
        return word, chance.randint(1, n)
    if word in ("load", "unload"):
        return word, boat, many
    if word == "carry":
        return (word, *chance.sample(range(n + 1), 2), many)
    return word, chance.randint(1, n), many


def some_tour(chance, plain, steps=6, weight=5):
    """A tour of that house: some trips, heaps and leasts left aside, and then what brings all back."""
    now = copy.deepcopy(plain)
    now.loose = True
    trips = []

    def take(trip):
        if now.do(trip)[0] == "ran":
            trips.append(trip)

    for step in range(chance.randint(0, steps)):
        take(some_trip(chance, now, weight))
    for name in chance.sample(sorted(now.boats), len(now.boats)):
        bring_back(now, take, name, plain.boats[name])
    for lock, chamber in enumerate(plain.chambers, 1):
        if now.chambers[lock - 1] != chamber:
            take(("turn", lock))
    assert now.boats == plain.boats and now.chambers == plain.chambers
    return trips


def bring_back(now, take, name, goal):
    """Takes trips until the boat is where it was, with as many aboard."""
    while now.boats[name][0] != goal[0]:
        up = now.boats[name][0] < goal[0]
        lock = now.boats[name][0] + up
        if now.chambers[lock - 1] != ("low" if up else "high"):
            take(("turn", lock))
        take(("up" if up else "down", name, lock))
    more = goal[1] - now.boats[name][1]
    if more != 0:
        take(("load" if more > 0 else "unload", name, abs(more)))


def far_house(chance):
    """A House and a PlainHouse with great levels and heaps, and a tour of them."""
    n = chance.randint(1, 6)
    stair = tuple((chance.randint(0, 9), chance.randint(10 ** 17, 10 ** 20), chance.randint(1, 9)) for at in range(n))
    levels = tuple(chance.choice([most, chance.randint(least, most)]) for least, most, size in stair)
    heaps = tuple(chance.randint(10 ** 15, 10 ** 20) for at in range(n + 1))
    boats = tuple((name, chance.randint(0, n)) for name in ("a", "b"))
    parts = stair, (levels, tuple(chance.choice(["low", "high"]) for at in range(n))), heaps, boats
    plain = PlainHouse(*parts)
    tour = some_tour(chance, plain)
    if chance.random() < 0.6:
        tour.append(("rain", n, 100))
    return House(*parts), plain, tour
