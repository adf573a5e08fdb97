"""A house: a stair with its stand, the heaps at its quays, and its boats."""

from liftwater.deeds import gone
from liftwater.kinds import is_number_from, is_number_within, is_tuple_of
from liftwater.trips import check_trip, deeds_of, fleet_behind, heaps_behind, shifts_of
from liftwater.words import CARRY, DOWN, DRAW, LOAD, RAIN, TURN, UNLOAD, UP

LETTERS = "abcdefghijklmnopqrstuvwxyz"
LONGEST_NAME = 8
MOST_PLACE = 20


class House:
    """Boats that are in pounds, goods aboard them and at quays, and the water that they lift."""

    def __init__(self, stair, stand, heaps, boats):
        self.stair = tuple([tuple(pound) for pound in stair])
        self.stand_now = tuple(stand[0]), tuple(stand[1])
        self.heaps_now = tuple(heaps)
        self.fleet = {boat: (place, 0) for boat, place in boats}
        self.ran_so_far = tuple([0 for pound in stair])

    def __eq__(self, other):
        return (
            isinstance(other, House) and self.stair == other.stair and self.stand_now == other.stand_now
            and self.heaps_now == other.heaps_now and self.fleet == other.fleet
        )

    def do(self, trip):
        """Does a trip, and tells what ran over; refused with NoBoat, Astray, Shut, Lack, Light, Dry."""
        return self.sail(trip)[1]

    def sail(self, trip):
        """Does a trip; the pair of the list of the deed that it came to, and of what ran over."""
        chambers = self.stand_now[1]
        # All that can be refused is ahead of all that is changed. No trip finds a heap and a boat's load too small at
        # once, so it's all the same that Light is looked for ahead of Lack.
        check_trip(self.fleet, chambers, trip)
        heaps = heaps_behind(self.heaps_now, shifts_of(self.fleet, trip))
        deeds = deeds_of(self.fleet, chambers, trip)
        stand, ran = gone(self.stair, self.stand_now, deeds)
        self.fleet = fleet_behind(self.fleet, trip)
        self.settle(stand, heaps, ran)
        return deeds, ran

    def settle(self, stand, heaps, ran):
        """Has another stand and other heaps from now on, so much more having run over."""
        self.stand_now = stand
        self.heaps_now = heaps
        self.ran_so_far = tuple([ahead + more for ahead, more in zip(self.ran_so_far, ran)])

    def stand(self):
        """The stand of its stair."""
        return self.stand_now

    def heaps(self):
        """How many goods lie at the quays of the sea and of each pound."""
        return self.heaps_now

    def ran(self):
        """All that ran over out of each pound so far."""
        return self.ran_so_far

    def boats(self):
        """The rising list of (boat, place, aboard)."""
        return [(boat, place, aboard) for boat, (place, aboard) in sorted(self.fleet.items())]

    def like(self):
        """One of its own, the same."""
        other = House(self.stair, self.stand_now, self.heaps_now, ())
        other.fleet = dict(self.fleet)
        other.ran_so_far = self.ran_so_far
        return other


def is_trip(thing):
    """Whether a thing is a trip in form."""
    if not isinstance(thing, tuple) or len(thing) < 2:
        return False
    word = thing[0]
    if word == TURN:
        return len(thing) == 2 and is_place(1, thing[1])
    if word == CARRY:
        return is_carry(thing)
    if len(thing) != 3:
        return False
    if word in (UP, DOWN):
        return is_name(thing[1]) and is_place(1, thing[2])
    if word in (LOAD, UNLOAD):
        return is_name(thing[1]) and is_number_from(1, thing[2])
    return word in (RAIN, DRAW) and is_place(1, thing[1]) and is_number_from(1, thing[2])


def is_carry(thing):
    """Whether the parts of a tuple are those of a carry."""
    if not is_tuple_of(4, thing):
        return False
    quay, other, many = thing[1:]
    return is_place(0, quay) and is_place(0, other) and quay != other and is_number_from(1, many)


def is_place(least, thing):
    """Whether a thing may number a lock, a quay or a pound."""
    return is_number_within(least, MOST_PLACE, thing)


def is_name(thing):
    """Whether a thing is a text of one to eight letters a to z."""
    return isinstance(thing, str) and 1 <= len(thing) <= LONGEST_NAME and all([sign in LETTERS for sign in thing])
