"""Whether a round goes for ever, or when which deed of it finds which pound dry."""

from liftwater.deeds import asked_by
from liftwater.errors import Dry
from liftwater.far import far_levels
from liftwater.lines import lines_of, rows_at, rows_from
from liftwater.near import near_dry
from liftwater.tables import table_of, tables_along
from liftwater.totals import totals_of
from liftwater.words import DRY, FOR_EVER


def told(stair, stand, deeds):
    """("for ever",) where all rounds are let, else ("dry", many, place, pound) of the first deed that isn't."""
    dry = first_dry(stair, stand[0], deeds)
    if dry is None:
        return (FOR_EVER,)
    many, place, pound = dry
    return DRY, many, place, pound


def goes(stair, stand, deeds, many):
    """Whether so many whole rounds are let."""
    dry = first_dry(stair, stand[0], deeds)
    return dry is None or dry[0] >= many


def stood(stair, stand, deeds):
    """The pair (first, levels): the least number of rounds behind which levels stand, and these; else Dry(pound)."""
    levels = stand[0]
    dry = first_dry(stair, levels, deeds)
    if dry is not None:
        raise Dry(dry[2])
    first = first_standing(stair, levels, deeds)
    return first, far_levels(stair, levels, deeds, first)


def first_dry(stair, levels, deeds):
    """The triple (rounds ahead, place, pound) of the first deed that is dry; None where none ever is."""
    # Rows tell totals from round n on only: the rounds ahead of it are gone through.
    near = near_dry(stair, levels, deeds, len(stair))
    return far_dry(stair, levels, deeds) if near is None else near


def far_dry(stair, levels, deeds):
    """The same, of the rounds from round n on."""
    along = tables_along(stair, deeds)
    lines = lines_of(along[-1], totals_of(levels))
    found = []
    for place, deed in enumerate(deeds):
        asked = asked_by(stair, deed)
        if asked is not None:
            pound, level = asked
            rows = rows_at(along[place], lines, pound)
            above = rows_at(along[place], lines, pound + 1)
            found += [(many, place, pound) for many in first_below(rows, above, level)]
    return min(found, default=None)


def first_below(rows, above, level):
    """The list of the first number of rounds at which rows, less those above, are below a level; bare where none."""
    firsts = sorted(set([row[0] for row in rows + above]))
    for first, end in zip(firsts, [*firsts[1:], None]):
        step, begin = less(row_over(rows, first), row_over(above, first))
        if begin + step * first < level:
            return [first]
        if step < 0:
            many = (begin - level) // -step + 1
            if end is None or many <= end:
                return [many]
    return []


def row_over(rows, first):
    """The row that goes on from a number of rounds."""
    return [row for row in rows if row[0] <= first][-1]


def less(row, above):
    """The pair (step, begin) of a row less the one above it."""
    return row[1] - above[1], row[2] - above[2]


def first_standing(stair, levels, deeds):
    """The least number of rounds behind which totals stand, of a round that goes for ever."""
    pounds = len(stair)
    lines = lines_of(table_of(stair, deeds), totals_of(levels))
    first = max([rows_from(pounds, straight)[-1][0] for straight in lines])
    # Totals that stand from round n on may have stood ahead of it, where no row reaches.
    while first <= pounds and first > 0 and stays(stair, levels, deeds, first - 1):
        first -= 1
    return first


def stays(stair, levels, deeds, many):
    """Whether levels behind so many rounds are what they are behind one more."""
    return far_levels(stair, levels, deeds, many) == far_levels(stair, levels, deeds, many + 1)
