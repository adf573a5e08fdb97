"""Trips as bare deeds, and tours: trips that may be done again and again."""

from liftwater.deeds import chambers_behind
from liftwater.endings import first_dry
from liftwater.errors import Astray, Dry, Lack, Light, NoBoat, Shut
from liftwater.far import far_levels, ran_over
from liftwater.trips import check_trip, deeds_of, fleet_behind, is_there, shifts_of
from liftwater.words import DRY, FOR_EVER, LACK


def bare_of(house, trips):
    """The list of the deeds that trips come to, done from house; refused as they are."""
    probe = house.like()
    deeds = []
    for trip in trips:
        deeds += probe.sail(trip)[0]
    return deeds


def is_tour(house, trips):
    """Whether trips, heaps and leasts left aside, are let and leave boats and chambers as they were."""
    if not all([is_there(house.stair, trip) for trip in trips]):
        return False
    try:
        voyage = voyage_of(house, trips)
    except (NoBoat, Astray, Shut, Light):
        return False
    return voyage[1] == house.fleet and voyage[2] == house.stand()[1]


def tour_told(house, trips):
    """("for ever",) of a tour, else ("dry", many, place, pound) or ("lack", many, place, quay) of the first refusal."""
    legs = voyage_of(house, trips)[0]
    found = tour_dry(house, legs) + tour_lacks(house.heaps(), legs)
    if not found:
        return (FOR_EVER,)
    many, place, word, what = min(found)
    return word, many, place, what


def go(house, trips, many):
    """A House behind so many of a tour; refused with Dry(pound), Lack(quay), as the first trip that is."""
    ending = tour_told(house, trips)
    if ending != (FOR_EVER,) and ending[1] < many:
        refuse_tour(ending)
    legs = voyage_of(house, trips)[0]
    deeds = [deed for leg in legs for deed in leg[0]]
    levels, chambers = house.stand()
    heaps = [heap + more * many for heap, more in zip(house.heaps(), heap_sums(house.heaps(), legs))]
    after = house.like()
    after.settle(
        (far_levels(house.stair, levels, deeds, many), chambers), tuple(heaps),
        ran_over(house.stair, levels, deeds, many)
    )
    return after


def refuse_tour(ending):
    """Raises the refusal that tour_told tells."""
    word, what = ending[0], ending[3]
    if word == DRY:
        raise Dry(what)
    raise Lack(what)


def voyage_of(house, trips):
    """The triple (legs, fleet, chambers) behind trips, heaps and leasts left aside; refused with what else bars them.

    A leg is the pair of what a trip comes to in deeds and in heaps.
    """
    fleet = house.fleet
    chambers = house.stand()[1]
    legs = []
    for trip in trips:
        check_trip(fleet, chambers, trip)
        deeds = deeds_of(fleet, chambers, trip)
        legs.append((deeds, shifts_of(fleet, trip)))
        fleet = fleet_behind(fleet, trip)
        for deed in deeds:
            chambers = chambers_behind(chambers, deed)
    return legs, fleet, chambers


def tour_dry(house, legs):
    """The list of (many, place, word, pound) of the first trip that is dry; bare where none is."""
    deeds = [deed for leg in legs for deed in leg[0]]
    places = [place for place, leg in enumerate(legs) for deed in leg[0]]
    dry = first_dry(house.stair, house.stand()[0], deeds)
    return [] if dry is None else [(dry[0], places[dry[1]], DRY, dry[2])]


def tour_lacks(heaps, legs):
    """The list of (many, place, word, quay), for each trip of the first tour in which its heap has too few."""
    sums = heap_sums(heaps, legs)
    rest = list(heaps)
    found = []
    for place, (deeds, shifts) in enumerate(legs):
        for quay, more in shifts:
            rest[quay] += more
            if more < 0:
                found += [(many, place, LACK, quay) for many in first_short(rest[quay], sums[quay])]
    return found


def first_short(rest, step):
    """The list of the first number of tours behind which a rest is below 0, that so much comes to in each."""
    if rest < 0:
        return [0]
    return [rest // -step + 1] if step < 0 else []


def heap_sums(heaps, legs):
    """What a tour adds to each heap."""
    changes = [change for leg in legs for change in leg[1]]
    return [sum([more for place, more in changes if place == quay]) for quay in range(len(heaps))]
