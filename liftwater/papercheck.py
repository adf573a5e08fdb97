"""A small judge of papers that show that a round goes for ever, or when it is dry.

From round n on totals bend down only. So where the total above the asked pound is straight, the level bends down only,
and is least at the ends: a paper names such ends, and only there is it looked whether the deed is dry.
"""

from liftwater.deeds import asked_by
from liftwater.kinds import is_number, is_number_from, is_tuple_of
from liftwater.near import near_dry
from liftwater.tables import doubles_of, led, led_often, tables_along
from liftwater.totals import levels_of, totals_of


def shows_ever(stair, stand, deeds, thing):
    """Whether a thing shows that the round goes for ever."""
    if not is_tuple_of(2, thing) or not is_number_from(len(stair), thing[0]):
        return False
    last, lists = thing
    if not are_lists(stair, deeds, last, lists) or near_dry(stair, stand[0], deeds, len(stair)) is not None:
        return False
    road = road_of(stair, stand[0], deeds, last + 1)
    return totals_on(road, last, 0) == totals_on(road, last + 1, 0) and all_hold(stair, deeds, road, lists)


def shows_dry(stair, stand, deeds, many, place, thing):
    """Whether a thing shows that so many whole rounds are let, and in the next the deed at place is dry."""
    if many < 0 or not 0 <= place < len(deeds):
        return False
    levels = stand[0]
    pound = deeds[place][1]
    if many <= len(stair):
        return is_bare_list(thing) and near_dry(stair, levels, deeds, many + 1) == (many, place, pound)
    if not are_lists(stair, deeds, many - 1, thing) or near_dry(stair, levels, deeds, len(stair)) is not None:
        return False
    road = road_of(stair, levels, deeds, many)
    dry = near_dry(stair, levels_of(totals_on(road, many, 0)[:-1]), deeds, 1)
    return dry == (0, place, pound) and all_hold(stair, deeds, road, thing)


def is_bare_list(thing):
    """Whether a thing is a list with nothing in it."""
    return isinstance(thing, list) and len(thing) == 0


def are_lists(stair, deeds, last, thing):
    """Whether a thing is a list with, for each deed, a bare list, or where it asks numbers from n to last."""
    if not isinstance(thing, list) or len(thing) != len(deeds):
        return False
    return all([
        is_bare_list(part) if asked_by(stair, deed) is None else are_numbers(len(stair), last, part)
        for deed, part in zip(deeds, thing)
    ])


def are_numbers(first, last, thing):
    """Whether a thing is a list of numbers that rise from first to last."""
    if not isinstance(thing, list) or not thing or not all([is_number(part) for part in thing]):
        return False
    return thing[0] == first and thing[-1] == last and all([one < other for one, other in zip(thing, thing[1:])])


def road_of(stair, levels, deeds, most):
    """What tells the totals ahead of each deed in each round that has at most so many ahead of it."""
    along = tables_along(stair, deeds)
    return totals_of(levels), doubles_of(along[-1], most), along


def totals_on(road, many, place):
    """The totals of pounds 1 to n + 1 ahead of the deed at place in the round that has so many ahead of it."""
    totals, doubles, along = road
    return led(along[place], led_often(doubles, totals, many)) + (0,)


def all_hold(stair, deeds, road, lists):
    """Whether no deed is dry at its numbers, and the total above is straight between them."""
    for place, numbers in enumerate(lists):
        if numbers and not holds(road, place, asked_by(stair, deeds[place]), numbers):
            return False
    return True


def holds(road, place, asked, numbers):
    """Whether a deed that asks so is dry at none of the numbers, and the total above is straight between them."""
    pound, level = asked
    for number in numbers:
        totals = totals_on(road, number, place)
        if totals[pound - 1] - totals[pound] < level:
            return False
    return all([
        step_above(road, place, pound, one) == step_above(road, place, pound, other - 1)
        for one, other in zip(numbers, numbers[1:])
    ])


def step_above(road, place, pound, many):
    """What the total above a pound has more in the round behind the one that has so many ahead of it."""
    return totals_on(road, many + 1, place)[pound] - totals_on(road, many, place)[pound]
