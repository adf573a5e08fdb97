"""Papers that show that a round goes for ever, or when it is dry."""

from liftwater.deeds import asked_by
from liftwater.endings import first_dry, first_standing
from liftwater.lines import lines_of, rows_at
from liftwater.tables import tables_along
from liftwater.totals import totals_of


def ever_paper(stair, stand, deeds):
    """A thing that shows_ever takes; None where the round doesn't go for ever."""
    levels = stand[0]
    if first_dry(stair, levels, deeds) is not None:
        return None
    last = max(len(stair), first_standing(stair, levels, deeds))
    return last, lists_to(stair, levels, deeds, last)


def dry_paper(stair, stand, deeds):
    """A thing that shows_dry takes of what told tells; None where the round goes for ever."""
    levels = stand[0]
    dry = first_dry(stair, levels, deeds)
    if dry is None:
        return None
    many = dry[0]
    return [] if many <= len(stair) else lists_to(stair, levels, deeds, many - 1)


def lists_to(stair, levels, deeds, last):
    """For each deed a list: bare where it doesn't ask, else where the total above bends, from n to last."""
    along = tables_along(stair, deeds)
    lines = lines_of(along[-1], totals_of(levels))
    lists = []
    for place, deed in enumerate(deeds):
        asked = asked_by(stair, deed)
        if asked is None:
            lists.append([])
        else:
            rows = rows_at(along[place], lines, asked[0] + 1)
            lists.append([row[0] for row in rows if row[0] < last] + [last])
    return lists
