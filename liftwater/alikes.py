"""Whether two lists of deeds end alike from all levels, leasts left aside.

Deeds have just one table, and levels that ran over first end as those that had not: so all that is asked here is told
by the tables alone.
"""

from liftwater.stairs import brimful
from liftwater.tables import led, table_of
from liftwater.totals import totals_of


def alike(stair, one, other):
    """Whether from all levels both lists of deeds end at the same."""
    return table_of(stair, one) == table_of(stair, other)


def no_less(stair, one, other):
    """Whether from all levels each total behind one is no less than behind other."""
    pairs = list(zip(table_of(stair, one), table_of(stair, other)))
    return all([more >= less for row, beside in pairs for more, less in zip(row, beside)])


def parted_at(stair, one, other):
    """Levels from which both lists of deeds end otherwise; None where they are alike."""
    tables = table_of(stair, one), table_of(stair, other)
    for levels in telling_levels(stair, depth_of(stair, tables)):
        totals = totals_of(levels)
        if led(tables[0], totals) != led(tables[1], totals):
            return levels
    return None


def telling_levels(stair, depth):
    """The brimful levels, and those with one pound so deep below: between them they show each number of a table."""
    brim = brimful(stair)[0]
    return [brim] + [(*brim[:at], brim[at] - depth, *brim[at + 1:]) for at in range(len(brim))]


def depth_of(stair, tables):
    """So deep that the number at a pound's own place is what's least, in each row that looks at it."""
    sizes = [abs(number) for table in tables for row in table for number in row]
    return 1 + 2 * max(sizes) + sum([pound[1] for pound in stair])
