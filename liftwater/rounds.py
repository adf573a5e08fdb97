"""Rounds: deeds that may be done again and again, and what they add."""

from liftwater.deeds import change_of, is_deed, is_shut
from liftwater.words import EMPTY, FILL


def is_round(stair, thing):
    """Whether a thing is a list of deeds among which each lock's turns take turns, as many of either."""
    if not isinstance(thing, list) or not all([is_deed(stair, deed) for deed in thing]):
        return False
    return all([take_turns(turns) for turns in turns_by_lock(stair, thing)])


def fits(stair, stand, deeds):
    """Whether each lock's first turn in a round is let by its chamber."""
    chambers = stand[1]
    firsts = [turns[0] for turns in turns_by_lock(stair, deeds) if turns]
    return not any([is_shut(chambers, turn) for turn in firsts])


def sums_of(stair, deeds):
    """What deeds add to each pound and all above it together, running over left aside."""
    changes = [change_of(stair, deed) for deed in deeds]
    return tuple([sum([more for pound, more in changes if pound >= lowest]) for lowest in range(1, len(stair) + 1)])


def turns_by_lock(stair, deeds):
    """For each lock the list of the deeds that turn it."""
    turns = [deed for deed in deeds if deed[0] in (FILL, EMPTY)]
    return [[turn for turn in turns if turn[1] == lock] for lock in range(1, len(stair) + 1)]


def take_turns(turns):
    """Whether fill and empty take turns, as many of either."""
    words = [turn[0] for turn in turns]
    # As many of either: the last is then unlike the first, so one behind the other they go on taking turns.
    return len(words) == 2 * words.count(FILL) and all([one != other for one, other in zip(words, words[1:])])
