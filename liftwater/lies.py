"""What lies where: how often each lock was emptied is told by levels, heaps and chambers, with no book."""

from liftwater.words import HIGH, LOW


def above(stair, stand, heaps, lock):
    """The levels and heaps of all pounds from a lock on, and the sizes of HIGH chambers from it on, together."""
    levels, chambers = stand
    held = [pound[2] for pound, chamber in list(zip(stair, chambers))[lock - 1:] if chamber == HIGH]
    return sum(levels[lock - 1:]) + sum(heaps[lock:]) + sum(held)


def emptied(stair, ahead, behind, came):
    """The list of how often each lock was emptied; None for each for which there's no such number."""
    stand, heaps = ahead
    stand_behind, heaps_behind = behind
    told = []
    for lock, (pound, more) in enumerate(zip(stair, came), start=1):
        went = above(stair, stand, heaps, lock) + more - above(stair, stand_behind, heaps_behind, lock)
        told.append(lockfuls_in(went, pound[2]))
    return told


def lockfuls_in(went, size):
    """How many lockfuls of a size so much is; None where it isn't a whole number of them from 0 on."""
    return went // size if went >= 0 and went % size == 0 else None


def false_in(stair, ahead, behind, came, book):
    """The rising list of the locks of which a book is false."""
    pairs = list(zip(emptied(stair, ahead, behind, came), book))
    return [lock for lock, (right, number) in enumerate(pairs, start=1) if right is None or right != number]


def worth(heights, stair, stand, heaps):
    """Levels, heaps and HIGH chambers, each times the height where it is, together."""
    levels, chambers = stand
    uppers = heights[1:]
    water = [level * height for level, height in zip(levels, uppers)]
    goods = [heap * height for heap, height in zip(heaps, heights)]
    held = [pound[2] * height for pound, chamber, height in zip(stair, chambers, uppers) if chamber == HIGH]
    return sum(water) + sum(goods) + sum(held)


def bare_turns(chamber, ups, downs):
    """The fewest turns with no boat when so many boats are to go up and down at a lock, in any order."""
    # Boats that go up and down by turns need none. Each one more of a sort needs one ahead of it, but for the first
    # boat of all, where the chamber stands for it.
    more = ups - downs if chamber == LOW else downs - ups
    return more - 1 if more > 0 else -more
