"""Whole numbers: moments as multiples of one common part of 1, whose sums are much quicker than those of fractions."""

from math import lcm


def common_part(rows):
    """Return a number whose parts of 1 make up all the moments of some lists."""
    part = 1
    for row in rows:
        for moment in row:
            if moment is not None:
                part = lcm(part, moment[1])
    return part


def whole_numbers(moments, part):
    """Return how many of these parts of 1 each moment is, None for None."""
    return [None if moment is None else moment[0] * (part // moment[1]) for moment in moments]


def arms_of(row):
    """Return the events for which an event waits, each with the time."""
    return [(j, time) for j, time in enumerate(row) if time is not None]
