"""Totals: each pound's level and those of all above it together."""


def totals_of(levels):
    """The totals that levels come to."""
    totals = []
    above = 0
    for level in levels[::-1]:
        above += level
        totals.append(above)
    return tuple(totals[::-1])


def levels_of(totals):
    """The levels again."""
    above = [*totals[1:], 0]
    return tuple([total - rest for total, rest in zip(totals, above)])
