"""Shapes: vectors to which each round adds one and the same fraction."""

from latelaw.equations import star
from latelaw.errors import NoRate, OutOfRange
from latelaw.moments import later_vector, minus, plus
from latelaw.rates import all_rates
from latelaw.works import lessened, next_round, product


def one_rate(work):
    """Return the rate of all events, None if they do not all have the same one."""
    rates = all_rates(work)
    if any(rate != rates[0] for rate in rates):
        return None
    return rates[0]


def reaches(work):
    """Return at i, j the reach of j at i, the greatest excess of the walks from j to i."""
    return star(_excesses(work))


def _excesses(work):
    """Return the work with the rate of all events subtracted from its moments."""
    rate = one_rate(work)
    if rate is None:
        raise NoRate("the events do not all have the same rate")
    return lessened(work, rate)


def critical_groups(work):
    """Return the groups of critical events that belong together, in the order of their least events."""
    excesses = _excesses(work)
    return _groups(excesses, star(excesses))


def _groups(excesses, reach):
    critical = _critical_events(excesses, reach)
    found = []
    for event in critical:
        group = [other for other in critical if plus(reach[event][other], reach[other][event]) == (0, 1)]
        # A group is met again at each of its events, and is taken at the least one only.
        if group[0] == event:
            found.append(group)
    return found


def _critical_events(excesses, reach):
    # At i, i this has the greatest excess of the walks of length 1 or more that come back to i. If it is 0, so is
    # that of each circuit of which such a walk consists.
    returns = product(excesses, reach)
    return [event for event in range(len(returns)) if returns[event][event] == (0, 1)]


def generators(work):
    """Return the generators of the groups, in the order of the groups."""
    excesses = _excesses(work)
    reach = star(excesses)
    return [[row[group[0]] for row in reach] for group in _groups(excesses, reach)]


def is_shape(work, vector):
    """Return True if a vector is a shape of the work."""
    if len(vector) != len(work):
        raise OutOfRange("the vector does not have a moment for each event")
    following = next_round(work, vector)
    if None in vector or None in following:
        return False
    growths = [minus(after, before) for before, after in zip(vector, following)]
    return all(growth == growths[0] for growth in growths)


def latest_of(vectors, shifts):
    """Return the latest one of the vectors, each shifted by the moment with the same index."""
    if len(vectors) != len(shifts) or not vectors:
        raise OutOfRange("there is not one shift for each vector, or there is no vector")
    shifted = [[plus(moment, shift) for moment in vector] for vector, shift in zip(vectors, shifts)]
    found = shifted[0]
    for vector in shifted[1:]:
        found = later_vector(found, vector)
    return found


def parts_of(work, vector):
    """Return the parts of a shape, by which the generators are shifted to make it up."""
    if not is_shape(work, vector):
        raise NoRate("the vector is not a shape")
    return [vector[group[0]] for group in critical_groups(work)]
