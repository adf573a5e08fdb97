"""A plain going deed by deed, by levels alone, and stairs and rounds that a fixed seed brings."""


def more_of(stair, deed):
    """The pair (pound, more) of a deed."""
    word, place = deed[0], deed[1]
    if word == "fill":
        return place, -stair[place - 1][2]
    if word == "empty":
        return place - 1, stair[place - 1][2]
    return place, deed[2] if word == "raise" else -deed[2]


def overrun(stair, levels):
    """The pair of lists (levels, ran) when it has run over."""
    levels, ran = list(levels), [0] * len(stair)
    for at in range(len(stair) - 1, -1, -1):
        ran[at] = max(0, levels[at] - stair[at][1])
        levels[at] -= ran[at]
        if at > 0:
            levels[at - 1] += ran[at]
    return levels, ran


def plain_deeds(stair, levels, deeds):
    """The pair of tuples (levels, ran) behind deeds, leasts and chambers left aside."""
    levels, together = list(levels), [0] * len(stair)
    for deed in deeds:
        pound, more = more_of(stair, deed)
        if pound > 0:
            levels[pound - 1] += more
        levels, ran = overrun(stair, levels)
        together = [one + other for one, other in zip(together, ran)]
    return tuple(levels), tuple(together)


def plain_totals(levels):
    return tuple(sum(levels[at:]) for at in range(len(levels)))


def plain_dry(stair, levels, deeds, rounds):
    """(many, place, pound) of the first deed that is dry within so many rounds, or None."""
    levels = list(levels)
    for many in range(rounds):
        for place, deed in enumerate(deeds):
            pound, more = more_of(stair, deed)
            if more < 0 and levels[pound - 1] + more < stair[pound - 1][0]:
                return many, place, pound
            levels = list(plain_deeds(stair, levels, [deed])[0])
    return None


def some_stair(chance, pounds=None, wide=6):
    """A stair of so many pounds, else one to six."""
    stair = []
    for at in range(pounds or chance.randint(1, 6)):
        least = chance.randint(0, 3)
        stair.append((least, least + chance.randint(0, wide), chance.randint(1, 4)))
    return tuple(stair)


def some_stand(chance, stair):
    levels = tuple(chance.randint(least, most) for least, most, size in stair)
    return levels, tuple(chance.choice(["low", "high"]) for pound in stair)


def low_levels(chance, stair, deep=40):
    """Levels none above its most, some of them far below 0."""
    return tuple(chance.choice([most, chance.randint(most - deep, most)]) for least, most, size in stair)


def some_round(chance, stair, chambers, turns=2, loads=4, weight=6):
    """A round that fits the chambers: its locks' turns and some loads, in any order."""
    left = {lock: 2 * chance.randint(0, turns) for lock in range(1, len(stair) + 1)}
    now = dict(enumerate(chambers, 1))
    order = [lock for lock in left for turn in range(left[lock])]
    order += [0] * chance.randint(0, loads)
    chance.shuffle(order)
    deeds = []
    for lock in order:
        if lock == 0:
            pound = chance.randint(1, len(stair))
            deeds.append((chance.choice(["raise", "raise", "lower"]), pound, chance.randint(1, weight)))
        else:
            deeds.append(("fill" if now[lock] == "low" else "empty", lock))
            now[lock] = "high" if now[lock] == "low" else "low"
    return deeds


def some_case(chance, pounds=None, wide=6):
    """A triple of a stair, a stand of it, and a round that fits it."""
    stair = some_stair(chance, pounds, wide)
    stand = some_stand(chance, stair)
    return stair, stand, some_round(chance, stair, stand[1])


def plain_ever(stair, levels, deeds):
    """Whether a round goes for ever, gone through until it is dry or levels stand; for small numbers only."""
    while plain_dry(stair, levels, deeds, 1) is None:
        ahead, levels = tuple(levels), plain_deeds(stair, levels, deeds)[0]
        if levels == ahead:
            return True
    return False


def lasting_case(chance, wide=None):
    """A case as some_case tells it, with a raise at the uppermost pound that often makes it go for ever."""
    stair = some_stair(chance, wide=chance.choice([2, 6, 30, 100]) if wide is None else wide)
    levels, chambers = some_stand(chance, stair)
    if chance.random() < 0.5:
        levels = tuple(pound[1] for pound in stair)
    deeds = some_round(chance, stair, chambers, turns=chance.choice([0, 1, 2]))
    if chance.random() < 0.6:
        deeds.insert(chance.randint(0, len(deeds)), ("raise", len(stair), chance.randint(1, 15)))
    return stair, (levels, chambers), deeds


def far_case(chance):
    """A case with great levels and small deeds, so that what ends it is far off."""
    stair = tuple((chance.randint(0, 9), chance.randint(10 ** 17, 10 ** 20), chance.randint(1, 9))
                  for at in range(chance.randint(1, 6)))
    levels, chambers = some_stand(chance, stair)
    deeds = some_round(chance, stair, chambers, turns=chance.choice([0, 1, 2]), weight=9)
    if chance.random() < 0.6:
        deeds.insert(chance.randint(0, len(deeds)), ("raise", len(stair), chance.randint(1, 40)))
    return stair, (levels, chambers), deeds
