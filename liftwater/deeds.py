"""Deeds: chambers filled and emptied, pounds raised and lowered, and what runs over."""

from liftwater.errors import Dry, Shut
from liftwater.kinds import is_number_from, is_number_within
from liftwater.words import DRY, EMPTY, FILL, HIGH, LOW, LOWER, RAISE, SHUT


def is_deed(stair, thing):
    """Whether a thing is a deed of the stair."""
    if not isinstance(thing, tuple) or len(thing) < 2 or not is_number_within(1, len(stair), thing[1]):
        return False
    if thing[0] in (FILL, EMPTY):
        return len(thing) == 2
    return thing[0] in (RAISE, LOWER) and len(thing) == 3 and is_number_from(1, thing[2])


def fault_of(stair, stand, deed):
    """What bars a deed, ("shut", lock) or ("dry", pound); None where nothing does."""
    levels, chambers = stand
    if is_shut(chambers, deed):
        return SHUT, deed[1]
    if is_dry(stair, levels, deed):
        return DRY, deed[1]
    return None


def done(stair, stand, deed):
    """The pair (stand, ran) behind a deed; refused with Shut(lock), Dry(pound)."""
    fault = fault_of(stair, stand, deed)
    if fault is not None:
        refuse(fault)
    levels, chambers = stand
    levels_now, ran = levels_behind(stair, levels, deed)
    return (levels_now, chambers_behind(chambers, deed)), ran


def gone(stair, stand, deeds):
    """The pair (stand, ran) behind all deeds; refused as the first of them is that is."""
    levels, chambers = stand
    stand_now = tuple(levels), tuple(chambers)
    ran_so_far = tuple([0 for pound in stair])
    for deed in deeds:
        stand_now, ran = done(stair, stand_now, deed)
        ran_so_far = tuple([ahead + more for ahead, more in zip(ran_so_far, ran)])
    return stand_now, ran_so_far


def is_shut(chambers, deed):
    """Whether the deed turns a chamber that doesn't stand as it must."""
    word, lock = deed[0], deed[1]
    if word == FILL:
        return chambers[lock - 1] != LOW
    return word == EMPTY and chambers[lock - 1] != HIGH


def is_dry(stair, levels, deed):
    """Whether the deed would leave the pound that it asks below its least."""
    asked = asked_by(stair, deed)
    return asked is not None and levels[asked[0] - 1] < asked[1]


def asked_by(stair, deed):
    """The pair (pound, level): the deed asks that level of that pound; None where it asks nothing."""
    pound, more = change_of(stair, deed)
    # A deed that adds is never dry: it may pour into the sea, which has no level to look at.
    if more >= 0:
        return None
    return pound, stair[pound - 1][0] - more


def change_of(stair, deed):
    """The pair (pound, more): the deed gives so much more to that pound, of 0 to the sea."""
    word, place = deed[0], deed[1]
    if word == FILL:
        return place, -stair[place - 1][2]
    if word == EMPTY:
        return place - 1, stair[place - 1][2]
    if word == RAISE:
        return place, deed[2]
    return place, -deed[2]


def levels_behind(stair, levels, deed):
    """The pair (levels, ran) behind a deed, whether or not it is barred."""
    pound, more = change_of(stair, deed)
    changed = list(levels)
    if pound > 0:
        changed[pound - 1] += more
    return run_over(stair, changed)


def run_over(stair, levels):
    """The pair (levels, ran): what stands above a pound's most is gone into the next one below."""
    kept = []
    ran = []
    poured = 0
    for pound, level in reversed(list(zip(stair, levels))):
        level_now = level + poured
        poured = max(0, level_now - pound[1])
        kept.append(level_now - poured)
        ran.append(poured)
    return tuple(kept[::-1]), tuple(ran[::-1])


def chambers_behind(chambers, deed):
    """The chambers behind a deed, whether or not it is barred."""
    turned = list(chambers)
    if deed[0] == FILL:
        turned[deed[1] - 1] = HIGH
    if deed[0] == EMPTY:
        turned[deed[1] - 1] = LOW
    return tuple(turned)


def refuse(fault):
    """Raises the refusal of a fault."""
    word, place = fault
    if word == SHUT:
        raise Shut(place)
    raise Dry(place)
