"""What trips come to: for chambers and pounds, for heaps, for boats; and what bars them.

A fleet is a dict with, for each boat's name, the pair (place, aboard).
"""

from liftwater.deeds import is_shut
from liftwater.errors import Astray, Lack, Light, NoBoat, Shut
from liftwater.words import CARRY, DOWN, DRAW, EMPTY, FILL, LOAD, LOW, LOWER, RAIN, RAISE, TURN, UNLOAD, UP


def names_boat(trip):
    """Whether it's a trip (word, boat, number) of a boat."""
    return trip[0] in (UP, DOWN, LOAD, UNLOAD)


def is_there(stair, trip):
    """Whether the stair has the lock, quays or pound that a trip tells."""
    word = trip[0]
    if word in (LOAD, UNLOAD):
        return True
    if word == CARRY:
        return max(trip[1], trip[2]) <= len(stair)
    return trip[2 if word in (UP, DOWN) else 1] <= len(stair)


def check_trip(fleet, chambers, trip):
    """Refuses a trip with NoBoat, Astray, Shut, Light; heaps and leasts are left aside."""
    if names_boat(trip):
        check_boat(fleet, trip)
    for deed in deeds_of(fleet, chambers, trip):
        if is_shut(chambers, deed):
            raise Shut(deed[1])


def check_boat(fleet, trip):
    """Refuses a boat's trip with NoBoat, Astray, Light."""
    word, boat, number = trip
    if boat not in fleet:
        raise NoBoat(boat)
    place, aboard = fleet[boat]
    if (word == UP and place != number - 1) or (word == DOWN and place != number):
        raise Astray(boat)
    if word == UNLOAD and aboard < number:
        raise Light(boat)


def deeds_of(fleet, chambers, trip):
    """The list of the deed that a trip comes to, bare where it comes to none."""
    word = trip[0]
    if word == UP:
        return [(FILL, trip[2])]
    if word == DOWN:
        return [(EMPTY, trip[2])]
    if word == TURN:
        lock = trip[1]
        return [(FILL if chambers[lock - 1] == LOW else EMPTY, lock)]
    return [(RAISE if more > 0 else LOWER, pound, abs(more)) for pound, more in weights_of(fleet, trip)]


def weights_of(fleet, trip):
    """The list of the pair (pound, more) by which a trip that turns no lock changes a pound's level."""
    word = trip[0]
    if word == RAIN:
        return [(trip[1], trip[2])]
    if word == DRAW:
        return [(trip[1], -trip[2])]
    if word == CARRY:
        return []
    # What goes aboard leaves the quay; in the sea it raises nothing.
    return [(place, -more) for place, more in shifts_of(fleet, trip) if place > 0]


def shifts_of(fleet, trip):
    """The list of the pairs (quay, more) by which a trip changes heaps, what it takes first."""
    word = trip[0]
    if word == CARRY:
        return [(trip[1], -trip[3]), (trip[2], trip[3])]
    if word == LOAD:
        return [(fleet[trip[1]][0], -trip[2])]
    if word == UNLOAD:
        return [(fleet[trip[1]][0], trip[2])]
    return []


def heaps_behind(heaps, shifts):
    """The heaps behind such changes; refused with Lack(quay)."""
    heaps_now = list(heaps)
    for quay, more in shifts:
        heaps_now[quay] += more
        if heaps_now[quay] < 0:
            raise Lack(quay)
    return tuple(heaps_now)


def fleet_behind(fleet, trip):
    """A fleet of its own, as it is behind a trip, whether or not that is barred."""
    fleet_now = dict(fleet)
    if names_boat(trip):
        word, boat, number = trip
        place, aboard = fleet[boat]
        if word == UP:
            fleet_now[boat] = number, aboard
        elif word == DOWN:
            fleet_now[boat] = number - 1, aboard
        else:
            fleet_now[boat] = place, aboard + (number if word == LOAD else -number)
    return fleet_now
