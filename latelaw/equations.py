"""Equations: candidates for a given next round, least solutions, and stars."""

from latelaw.errors import NoRate
from latelaw.moments import earliest, later_vector, minus
from latelaw.works import idle, later_work, next_round, power, product


def candidate(work, vector):
    """Return the candidate of a work and a vector, the one to try first for this next round."""
    return [_candidate_moment([row[j] for row in work], vector) for j in range(len(work))]


def _candidate_moment(column, vector):
    differences = [_difference(bound, time) for bound, time in zip(vector, column) if time is not None]
    if not differences:
        return (0, 1)
    return earliest(differences)


def _difference(bound, time):
    if bound is None:
        return None
    return minus(bound, time)


def solution(work, vector):
    """Return the candidate if its next round is the vector, otherwise None."""
    found = candidate(work, vector)
    if next_round(work, found) == vector:
        return found
    return None


def least_solution(work, vector):
    """Return the least x that is the later one of its own next round and the vector."""
    found = list(vector)
    for _ in work[1:]:
        found = _right_side(work, vector, found)
    # Walks that repeat an event bring nothing new unless a circuit raises its own events for ever.
    if _right_side(work, vector, found) != found:
        raise NoRate("a start reaches a circuit with a mean greater than 0")
    return found


def _right_side(work, vector, found):
    return later_vector(next_round(work, found), vector)


def star(work):
    """Return the work with the greatest times of walks of any length."""
    unit = idle(len(work))
    # With the idle work beside it, a power takes in all shorter walks too.
    found = power(later_work(work, unit), len(work) - 1)
    if later_work(product(work, found), unit) != found:
        raise NoRate("a circuit has a mean greater than 0")
    return found
