"""Courses: so many of one round, then so many of another."""

from liftwater.endings import first_dry
from liftwater.errors import Dry
from liftwater.far import far_levels, ran_over


def course_told(stair, stand, course):
    """None where all is let, else (number, many, place, pound) of the pair and its deed that is dry."""
    return course_gone(stair, stand[0], course)[0]


def course_end(stair, stand, course):
    """The pair (stand, ran) behind all; refused with Dry(pound)."""
    dry, levels, ran = course_gone(stair, stand[0], course)
    if dry is not None:
        raise Dry(dry[3])
    return (levels, tuple(stand[1])), ran


def course_gone(stair, levels, course):
    """The triple (dry, levels, ran): what course_told tells, and levels and what ran over behind the pairs let."""
    levels_now = tuple(levels)
    ran_so_far = tuple([0 for pound in stair])
    for number, (deeds, many) in enumerate(course):
        dry = first_dry(stair, levels_now, deeds)
        if dry is not None and dry[0] < many:
            return (number, *dry), levels_now, ran_so_far
        ran = ran_over(stair, levels_now, deeds, many)
        ran_so_far = tuple([ahead + more for ahead, more in zip(ran_so_far, ran)])
        levels_now = far_levels(stair, levels_now, deeds, many)
    return None, levels_now, ran_so_far
