"""Moments: exact fractions, and None for a moment before all others."""

from math import gcd

from latelaw.errors import OutOfRange


def fraction(top, low):
    """Return the fraction top / low in lowest terms."""
    if low == 0:
        raise OutOfRange("the low of a fraction is 0")
    divisor = gcd(top, low)
    if low < 0:
        divisor = -divisor
    return (top // divisor, low // divisor)


def is_fraction(pair):
    """Return True if a tuple of two integers is a fraction in lowest terms."""
    top, low = pair
    return low >= 1 and gcd(top, low) == 1


def plus(first, second):
    """Return the sum of two moments, None if one of them is None."""
    if first is None or second is None:
        return None
    return fraction(first[0] * second[1] + second[0] * first[1], first[1] * second[1])


def minus(first, second):
    """Return the difference of two fractions."""
    return fraction(first[0] * second[1] - second[0] * first[1], first[1] * second[1])


def times(first, second):
    """Return the product of two fractions."""
    return fraction(first[0] * second[0], first[1] * second[1])


def over(first, second):
    """Return the quotient of two fractions."""
    if second[0] == 0:
        raise OutOfRange("a fraction is divided by 0")
    return fraction(first[0] * second[1], first[1] * second[0])


def is_less(first, second):
    """Return True if the first moment is less than the second one."""
    if second is None:
        return False
    if first is None:
        return True
    return first[0] * second[1] < second[0] * first[1]


def later(first, second):
    """Return the later one of two moments."""
    if is_less(first, second):
        return second
    return first


def latest(moments):
    """Return the latest one of a list of moments, None if it is empty."""
    found = None
    for moment in moments:
        found = later(found, moment)
    return found


def earliest(moments):
    """Return the least one of a list of moments, which must not be empty."""
    found = moments[0]
    for moment in moments:
        if is_less(moment, found):
            found = moment
    return found


def later_vector(first, second):
    """Return the vector with the later moment of two vectors at each index."""
    _check_same_length(first, second)
    return [later(one, other) for one, other in zip(first, second)]


def at_most(first, second):
    """Return True if each moment of the first vector is at most that of the second one."""
    _check_same_length(first, second)
    return not any(is_less(other, one) for one, other in zip(first, second))


def _check_same_length(first, second):
    if len(first) != len(second):
        raise OutOfRange("the vectors have different lengths")
