"""Least beginnings: the least level, the least thaw, and the most that may be taken, for ever."""

from liftwater.endings import first_dry
from liftwater.rounds import sums_of
from liftwater.words import LOWER, RAISE


def least_level(stair, stand, deeds, pound):
    """The least level of a pound from which the round goes for ever; None where none does."""
    least, most, size = stair[pound - 1]
    levels = stand[0]
    return least_such(least, most, lambda level: lasts(stair, with_level(levels, pound, level), deeds))


def least_thaw(stair, stand, deeds):
    """The least raise of the uppermost pound ahead of each round with which it goes for ever; None where none."""
    levels = stand[0]
    # So much fills all pounds, whatever is in them: more of it only runs over.
    flood = sum([pound[1] for pound in stair])
    return least_such(0, flood, lambda many: lasts(stair, levels, loaded(RAISE, len(stair), many) + list(deeds)))


def most_taken(stair, stand, deeds, pound):
    """The most that may be lowered at a pound behind each round that goes for ever; None where it doesn't itself."""
    levels = stand[0]
    if not lasts(stair, levels, deeds):
        return None
    least, most, size = stair[pound - 1]
    # One more than from the most to the least is too much in any round.
    too_much = least_such(
        1, most - least + 1, lambda many: not lasts(stair, levels, list(deeds) + loaded(LOWER, pound, many))
    )
    return too_much - 1


def stones_of(stair, deeds):
    """The least number that, raised at the uppermost pound too, leaves no sum of the round below 0."""
    return max([0] + [-more for more in sums_of(stair, deeds)])


def lasts(stair, levels, deeds):
    """Whether the round goes for ever."""
    # A sum below 0 drains its pounds in the end: so it needn't be asked when.
    return min(sums_of(stair, deeds)) >= 0 and first_dry(stair, levels, deeds) is None


def with_level(levels, pound, level):
    """The levels with another one of that pound."""
    return [*levels[:pound - 1], level, *levels[pound:]]


def loaded(word, pound, many):
    """The list with a raise or lower of so many, bare of 0."""
    return [(word, pound, many)] if many > 0 else []


def least_such(low, high, suits):
    """The least number from low to high that suits, where each above one that suits does; None where none does."""
    if not suits(high):
        return None
    least, most = low, high
    while least < most:
        middle = (least + most) // 2
        if suits(middle):
            most = middle
        else:
            least = middle + 1
    return most
