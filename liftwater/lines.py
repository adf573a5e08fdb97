"""The totals from round n on, as the least of a few straight lines.

A total behind k rounds is the least, over all ways of k steps through the round's table, of the numbers along the way
and the total at its end. A way waits at a place, or steps on to one above it, which it can at most n times. So from
k = n on a best way does all its waiting at one place, and each place gives one line: what is stepped on and ended at,
and that place's own number for each round that waits. A line is a pair (step, begin): begin + step * k.
"""


def rows_at(table, lines, pound):
    """A pound's straight rows, by the table from a round's begin to where it's asked, and the lines of that begin."""
    row = [*table, (0,)][pound - 1]
    return rows_from(len(table), merged(row, lines[pound - 1:]))


def lines_of(table, totals):
    """The list of the lines of pounds 1 to n + 1 behind many rounds, each a list."""
    rows = [*table, (0,)]
    ends = [*totals, 0]
    lines = [[] for end in ends]
    for place, row in enumerate(rows):
        for at, begin in enumerate(begins_waiting(rows, ends, place)):
            lines[at].append((row[0], begin))
    return lines


def begins_waiting(rows, ends, place):
    """For each place up to this one, where the line begins of the ways from there that wait here."""
    step = rows[place][0]
    begins = list(ends)
    for at in reversed(range(place, len(ends))):
        begins[at] = min([begins[at]] + stepped_on(rows, begins, at, len(ends), step))
    for at in reversed(range(place)):
        begins[at] = min(stepped_on(rows, begins, at, place + 1, step))
    return begins[:place + 1]


def stepped_on(rows, begins, at, limit, step):
    """The list of where the ways begin that step on from a place to each above it, below the limit."""
    # Each step on takes a round, which is then not waited.
    return [rows[at][upper - at] - step + begins[upper] for upper in range(at + 1, limit)]


def merged(row, lines):
    """The lines of a pound, by its row and the lines of all places that the row looks at."""
    begins = {}
    for more, straight in zip(row, lines):
        for step, begin in straight:
            begins[step] = min(begin + more, begins.get(step, begin + more))
    return list(begins.items())


def rows_from(first, lines):
    """The straight rows (first, step, begin) of the least of the lines, from a first number of rounds on."""
    rows = [row_at(first, lines)]
    bend = bend_of(rows[-1], lines)
    while bend is not None:
        rows.append(row_at(bend, lines))
        bend = bend_of(rows[-1], lines)
    return rows


def row_at(first, lines):
    """The row that begins at first."""
    total = lowest(lines, first)
    step = lowest(lines, first + 1) - total
    return first, step, total - step * first


def lowest(lines, many):
    """The least of the lines behind so many rounds."""
    return min([begin + step * many for step, begin in lines])


def bend_of(row, lines):
    """The last number of rounds at which no line is below the row; None where none ever is."""
    first, step, begin = row
    return min([(other - begin) // (step - lesser) for lesser, other in lines if lesser < step], default=None)
