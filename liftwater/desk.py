"""A desk: rows of text that make a yard, do trips in it and ask about it."""

from liftwater.bare import is_tour, tour_told
from liftwater.errors import Astray, BadRow, BadText, Dry, Lack, Light, NoBoat, NoTour, Shut
from liftwater.house import House, is_name
from liftwater.kinds import is_number_within
from liftwater.stairs import is_stand
from liftwater.texts import number_in, stair_in, trip_in
from liftwater.trips import is_there
from liftwater.words import HIGH, LOW
from liftwater.yard import Yard

# How many rows each desk begins with: stair, stand, heaps.
HEADS = 3


def run(rows):
    """The list of the rows' answers; refused as a whole with BadRow(number)."""
    stair = found_in(0, stair_of(words_at(rows, 0)))
    stand = found_in(1, stand_of(stair, words_at(rows, 1)))
    heaps = found_in(2, heaps_of(stair, words_at(rows, 2)))
    boats = boats_of(stair, rows)
    orders = orders_of(stair, rows, HEADS + len(boats))
    yard = Yard(House(stair, stand, heaps, boats))
    return ["done" for row in rows[:HEADS + len(boats)]] + [answer_to(yard, order) for order in orders]


def words_at(rows, number):
    """The words of a row; none of a row that isn't there."""
    return rows[number].split(" ") if number < len(rows) else []


def found_in(number, thing):
    """The thing that was read in a row; refused with BadRow(number) where it's None."""
    if thing is None:
        raise BadRow(number)
    return thing


def stair_of(words):
    """The stair of a row `stair ..`; None where it's none."""
    if words[:1] != ["stair"]:
        return None
    try:
        return stair_in(" ".join(words[1:]))
    except BadText:
        return None


def stand_of(stair, words):
    """The stand of a row `stand LEVEL+ LEVEL- ..`; None where it's none of the stair's."""
    levels = tuple([number_in(word[:-1]) for word in words[1:]])
    chambers = tuple([chamber_of(word[-1:]) for word in words[1:]])
    return (levels, chambers) if words[:1] == ["stand"] and is_stand(stair, (levels, chambers)) else None


def chamber_of(sign):
    """The chamber that a sign stands for; None where it stands for none."""
    if sign == "+":
        return HIGH
    return LOW if sign == "-" else None


def heaps_of(stair, words):
    """The heaps of a row `heaps ..`; None where it's none of the stair's."""
    heaps = tuple([number_in(word) for word in words[1:]])
    right = words[:1] == ["heaps"] and len(heaps) == len(stair) + 1 and None not in heaps
    return heaps if right else None


def boats_of(stair, rows):
    """The list of the pairs (boat, place) of the rows right behind the heaps."""
    boats = []
    for number in range(HEADS, len(rows)):
        words = words_at(rows, number)
        if words[0] != "boat":
            break
        boats.append(found_in(number, boat_of(stair, boats, words)))
    return boats


def boat_of(stair, boats, words):
    """The pair (boat, place) of a row `boat NAME PLACE`; None where it's none, or beside boats of that name."""
    if len(words) != 3:
        return None
    name, place = words[1], number_in(words[2])
    if not is_name(name) or not is_number_within(0, len(stair), place):
        return None
    return None if name in [boat[0] for boat in boats] else (name, place)


def orders_of(stair, rows, first):
    """The list of the triples (word, trips, many) of the rows from the first on."""
    return [found_in(number, order_of(stair, words_at(rows, number))) for number in range(first, len(rows))]


def order_of(stair, words):
    """The triple (word, trips, many) of a row that asks or does something, of a trip with the word `do`; else None."""
    word = words[0]
    if word in ("undo", "levels", "heaps?", "boats?", "ran"):
        return (word, [], 0) if len(words) == 1 else None
    if word == "told":
        return order_with(word, trips_of(stair, words[1:]), 0)
    if word == "tours":
        # A row that ends ahead of its number has a bare text there, which is no number either.
        return order_with(word, trips_of(stair, words[2:]), number_in("".join(words[1:2])))
    trip = trip_of(stair, " ".join(words))
    return None if trip is None else ("do", [trip], 0)


def order_with(word, trips, many):
    """The triple of these; None where there are no such trips or no such number."""
    return None if trips is None or many is None else (word, trips, many)


def trips_of(stair, words):
    """The list of the trips of words, parted by `;`; None where one is none."""
    trips = [trip_of(stair, text) for text in " ".join(words).split(" ; ")]
    return None if None in trips else trips


def trip_of(stair, text):
    """The trip of a text; None where it is none, or the stair hasn't what it tells."""
    try:
        trip = trip_in(text)
    except BadText:
        return None
    return trip if is_there(stair, trip) else None


def answer_to(yard, order):
    """The answer to a row, also where it's refused."""
    try:
        return let(yard, order)
    except NoTour:
        return "refused NoTour"
    except NoBoat:
        return "refused NoBoat"
    except Lack:
        return "refused Lack"
    except Shut:
        return "refused Shut"
    except Astray:
        return "refused Astray"
    except Dry:
        return "refused Dry"
    except Light:
        return "refused Light"


def let(yard, order):
    """The answer to a row that is let."""
    word, trips, many = order
    if word == "do":
        return by_blanks(yard.do(trips[0]))
    if word == "tours":
        return by_blanks(yard.tours(trips, many))
    if word == "undo":
        return "yes" if yard.undo() else "no"
    return shown(yard.house(), word, trips)


def shown(house, word, trips):
    """The answer to a row that only asks."""
    if word == "told":
        if not is_tour(house, trips):
            raise NoTour(len(trips))
        return by_blanks(tour_told(house, trips))
    if word == "levels":
        return by_blanks(house.stand()[0])
    if word == "heaps?":
        return by_blanks(house.heaps())
    if word == "ran":
        return by_blanks(house.ran())
    return by_blanks([f"{boat}:{place}:{aboard}" for boat, place, aboard in house.boats()]) or "-"


def by_blanks(parts):
    """The parts as one text."""
    return " ".join([str(part) for part in parts])
