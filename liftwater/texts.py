"""Stairs and trips as texts."""

from liftwater.errors import BadText
from liftwater.house import is_trip
from liftwater.stairs import is_stair

FIGURES = "0123456789"
MOST_FIGURES = 19


def stair_text(stair):
    """`LEAST/MOST/SIZE` of each pound, by blanks."""
    return " ".join(["/".join([str(number) for number in pound]) for pound in stair])


def stair_in(text):
    """The stair of a text; refused with BadText(text)."""
    stair = tuple([tuple([number_in(part) for part in word.split("/")]) for word in text.split(" ")])
    if not is_stair(stair):
        raise BadText(text)
    return stair


def trip_text(trip):
    """A trip's parts, by blanks."""
    return " ".join([str(part) for part in trip])


def trip_in(text):
    """The trip of a text; refused with BadText(text)."""
    # A word that is no number is left as it is: there it's a boat's name, or no trip has it.
    trip = tuple([word if number_in(word) is None else number_in(word) for word in text.split(" ")])
    if not is_trip(trip):
        raise BadText(text)
    return trip


def number_in(text):
    """The number of a text of plain figures; None where it is none."""
    if not 1 <= len(text) <= MOST_FIGURES or not all([sign in FIGURES for sign in text]):
        return None
    return None if len(text) > 1 and text[0] == "0" else int(text)
