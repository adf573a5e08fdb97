"""Far rounds: levels, totals and what ran over behind any many rounds, without going through them."""

from liftwater.lines import lines_of, rows_at
from liftwater.rounds import sums_of
from liftwater.tables import doubles_of, led, led_often, table_of
from liftwater.totals import levels_of, totals_of


def far_levels(stair, levels, deeds, many):
    """The levels behind so many rounds, leasts left aside."""
    return levels_of(far_totals(stair, levels, deeds, many))


def far_totals(stair, levels, deeds, many):
    """The totals behind so many rounds, leasts left aside."""
    return led_often(doubles_of(table_of(stair, deeds), many), totals_of(levels), many)


def ran_over(stair, levels, deeds, many):
    """What ran over out of each pound in so many rounds."""
    # What came above a lock, and isn't there, ran over.
    ahead = totals_of(levels)
    left = far_totals(stair, levels, deeds, many)
    return tuple([total + more * many - rest for total, more, rest in zip(ahead, sums_of(stair, deeds), left)])


def total_at(stair, levels, deeds, many, place, pound):
    """A pound's total ahead of the deed at place in the round that has so many ahead of it."""
    totals = led(table_of(stair, deeds[:place]), far_totals(stair, levels, deeds, many))
    return [*totals, 0][pound - 1]


def rows_of(stair, levels, deeds, place, pound):
    """The straight rows (first, step, begin) of such totals from round n on."""
    lines = lines_of(table_of(stair, deeds), totals_of(levels))
    return rows_at(table_of(stair, deeds[:place]), lines, pound)
