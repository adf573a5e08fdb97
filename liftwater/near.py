"""A few rounds gone through plainly, deed by deed."""

from liftwater.deeds import is_dry, levels_behind


def near_dry(stair, levels, deeds, many):
    """The triple (rounds ahead, place, pound) of the first deed that is dry in so many rounds; None where none is."""
    levels_now = tuple(levels)
    for ahead in range(many):
        for place, deed in enumerate(deeds):
            if is_dry(stair, levels_now, deed):
                return ahead, place, deed[1]
            levels_now = levels_behind(stair, levels_now, deed)[0]
    return None
