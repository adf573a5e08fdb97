"""Stairs, stands and things of any kind that several tests ask about."""

from liftwater.words import HIGH, LOW

STAIR = ((2, 10, 3), (0, 5, 1), (4, 4, 2))
STAND = ((10, 3, 4), (LOW, HIGH, LOW))


def as_lists(thing):
    """The same, with a list for each tuple, however deep."""
    if isinstance(thing, (list, tuple)):
        return [as_lists(part) for part in thing]
    return thing


def any_things():
    """Things of each kind that may be asked about, some of them six deep."""
    flat = [0, 1, -1, 7, 10 ** 30, True, False, None, "", "low", "high", "fill", "raise", "x", [], ()]
    told = list(flat)
    for part in flat:
        told += [[part], (part,), [part, part], (part, part), (part, part, part), ((part,), (part,))]
        told += [("fill", part), (part, 1), ("raise", 1, part), ("raise", part, 1), ("lower", part), (part, 1, 1)]
        told += [((part, part, part),), ([part, part, part],), ((((((part,),),),),),), [[[[[[part]]]]]]]
    return told


def with_one_otherwise(thing, others):
    """The thing with each of its parts in turn, and each part of those, put otherwise."""
    told = []
    for at, part in enumerate(thing):
        for other in others:
            told.append(thing[:at] + (other,) + thing[at + 1:])
        if isinstance(part, tuple):
            told += [thing[:at] + (inner,) + thing[at + 1:] for inner in with_one_otherwise(part, others)]
    return told
