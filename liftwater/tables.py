"""Tables of sums and leasts, by which totals are led to those behind deeds, leasts of pounds left aside."""

from liftwater.deeds import change_of
from liftwater.kinds import is_number, is_tuple_of


def is_table(many, thing):
    """Whether a thing is a table of so many pounds."""
    return is_tuple_of(many, thing) and all([is_row(many + 1 - at, row) for at, row in enumerate(thing)])


def is_row(many, thing):
    """Whether a thing is a tuple of so many numbers."""
    return is_tuple_of(many, thing) and all([is_number(part) for part in thing])


def led(table, totals):
    """The totals that a table makes of totals."""
    # Above the uppermost pound there's nothing: of the last place the table's number alone counts.
    parts = [*totals, 0]
    return tuple([min([more + total for more, total in zip(row, parts[at:])]) for at, row in enumerate(table)])


def table_of(stair, deeds):
    """The table of running over first, and then of the deeds one behind the other."""
    return tables_along(stair, deeds)[-1]


def tables_along(stair, deeds):
    """The list of the tables that lead to what is ahead of each deed, and behind the last."""
    table = brim_table(stair)
    along = [table]
    for deed in deeds:
        table = table_behind(stair, table, deed)
        along.append(table)
    return along


def brim_table(stair):
    """The table of running over alone."""
    rows = []
    above = (0,)
    for pound in stair[::-1]:
        above = (0,) + tuple([pound[1] + more for more in above])
        rows.append(above)
    return tuple(rows[::-1])


def table_behind(stair, table, deed):
    """The table that leads as table does, and then as one deed does."""
    changed, more = change_of(stair, deed)
    rows = []
    above = (0,)
    for pound in reversed(range(1, len(stair) + 1)):
        added = more if pound <= changed else 0
        row = [number + added for number in table[pound - 1]]
        brim = stair[pound - 1][1]
        # A total is no more than the pound's most and the total above it: what is more runs over.
        above = (row[0],) + tuple([min(number, brim + rest) for number, rest in zip(row[1:], above)])
        rows.append(above)
    return tuple(rows[::-1])


def behind(one, other):
    """The table that leads as one does, and then other."""
    rows = [*one, (0,)]
    return tuple([row_behind(rows[at:], row) for at, row in enumerate(other)])


def row_behind(rows, row):
    """A row of other behind one, whose rows, from that row's own place on, are handed in."""
    return tuple([
        min([row[between] + rows[between][place - between] for between in range(place + 1)])
        for place in range(len(row))
    ])


def power(table, many):
    """So many of a table, from 1, one behind the other; None of fewer."""
    # No table leaves all totals as they are: its numbers would have no end.
    if many < 1:
        return None
    parts = doubles_in(doubles_of(table, many), many)
    whole = parts[0]
    for part in parts[1:]:
        whole = behind(whole, part)
    return whole


def doubles_of(table, most):
    """The list of 1, 2, 4, .. of a table one behind the other, as far as numbers to most need them."""
    double = tuple([tuple(row) for row in table])
    doubles = [double]
    for step in range(most.bit_length() - 1):
        double = behind(double, double)
        doubles.append(double)
    return doubles


def doubles_in(doubles, many):
    """The list of those doubles that come to so many of the table together."""
    return [double for at, double in enumerate(doubles) if (many >> at) & 1]


def led_often(doubles, totals, many):
    """The totals that so many of a table make, one behind the other, 0 too."""
    totals_now = tuple(totals)
    for double in doubles_in(doubles, many):
        totals_now = led(double, totals_now)
    return totals_now
