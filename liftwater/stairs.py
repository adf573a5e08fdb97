"""Stairs of pounds, and how levels and chambers stand in them."""

from liftwater.kinds import is_number_from, is_number_within, is_tuple_of
from liftwater.words import HIGH, LOW


def is_stair(thing):
    """Whether a thing is a tuple of pounds, one at least."""
    return isinstance(thing, tuple) and len(thing) > 0 and all([is_pound(pound) for pound in thing])


def is_pound(thing):
    """Whether a thing is a tuple (least, most, size)."""
    if not is_tuple_of(3, thing):
        return False
    least, most, size = thing
    return is_number_from(0, least) and is_number_from(least, most) and is_number_from(1, size)


def is_stand(stair, thing):
    """Whether a thing is a pair (levels, chambers) of the stair."""
    if not is_tuple_of(2, thing):
        return False
    levels, chambers = thing
    return are_levels(stair, levels) and are_chambers(stair, chambers)


def are_levels(stair, thing):
    """Whether a thing is a tuple with a level of each pound, from its least to its most."""
    if not is_tuple_of(len(stair), thing):
        return False
    return all([is_number_within(pound[0], pound[1], level) for pound, level in zip(stair, thing)])


def are_chambers(stair, thing):
    """Whether a thing is a tuple with LOW or HIGH for each lock."""
    return is_tuple_of(len(stair), thing) and all([chamber in (LOW, HIGH) for chamber in thing])


def brimful(stair):
    """The stand with all levels at their most, all chambers LOW."""
    return tuple([pound[1] for pound in stair]), tuple([LOW for pound in stair])
