"""Rates: how fast each event goes on, with circuits and potentials that prove it."""

from latelaw.errors import OutOfRange
from latelaw.moments import earliest, is_fraction, is_less, later, later_vector, latest, minus, over, plus
from latelaw.works import classes, is_circuit, next_round, reached_from, walk_time


def rate_of(work, event):
    """Return the rate of an event, None if no circuit reaches it."""
    if not 0 <= event < len(work):
        raise OutOfRange("there is no such event")
    return all_rates(work)[event]


def all_rates(work):
    """Return the list of the rates of all events."""
    rates = [None for _ in work]
    for members in classes(work):
        mean = _greatest_mean(work, members)
        for event in reached_from(work, members[0]):
            rates[event] = later(rates[event], mean)
    return rates


def _greatest_mean(work, members):
    """Return the greatest mean of the circuits of a class, None if it has no circuit."""
    inner = [[work[i][j] for j in members] for i in members]
    vector = [(0, 1)] + [None for _ in members[1:]]
    rounds = [vector]
    for _ in members:
        vector = next_round(inner, vector)
        rounds.append(vector)
    # By a theorem of Karp the greatest one of these growths is the greatest mean.
    return latest([_least_growth([times[at] for times in rounds]) for at in range(len(members))])


def _least_growth(times):
    """Return the least mean growth up to the last one of some moments, None if this one is None."""
    last = len(times) - 1
    if times[last] is None:
        return None
    return earliest([
        over(minus(times[last], times[k]), (last - k, 1)) for k in range(last) if times[k] is not None
    ])


def rate_paper(work):
    """Return the computed rate paper of a work."""
    rates = all_rates(work)
    gains = _gains(work, rates)
    potentials = _potentials(gains)
    circuits = _circuits(work, rates, _tight_targets(gains, potentials))
    return (rates, circuits, potentials)


def _gains(work, rates):
    """Return at i, j by how much a step from j to i raises a potential, None if it binds none."""
    size = len(work)
    return [[_gain(work[i][j], rates[i], rates[j]) for j in range(size)] for i in range(size)]


def _gain(time, rate, source_rate):
    if time is None or rate != source_rate:
        return None
    if rate is None:
        # Potentials of events without a rate count steps.
        return (1, 1)
    return minus(time, rate)


def _potentials(gains):
    """Return for each event the greatest sum of gains of the walks that lead to it."""
    found = [(0, 1) for _ in gains]
    # No circuit has a gain above 0, so walks that are shorter than the number of events are enough.
    for _ in gains[1:]:
        found = later_vector(found, next_round(gains, found))
    return found


def _tight_targets(gains, potentials):
    """Return for each event the ascending list of the events to which a step leads without slack.

    The circuits of such steps are those with the mean that is the rate of their events.
    """
    size = len(gains)
    return [
        [i for i in range(size) if plus(gains[i][j], potentials[j]) == potentials[i]] for j in range(size)
    ]


def _circuits(work, rates, targets):
    """Return for each event its circuit in the computed rate paper."""
    found = [None for _ in work]
    for first in range(len(work)):
        circuit = least_circuit(targets, first)
        if circuit is not None:
            for event in reached_from(work, first):
                # Of equally short circuits the one that is found first begins with the least event.
                if rates[event] == rates[first] and (found[event] is None or len(circuit) < len(found[event])):
                    found[event] = list(circuit)
    return found


def least_circuit(targets, first):
    """Return the least one of the shortest circuits whose least event is the first one, or None.

    targets has for each event the ascending list of the events to which a step leads.
    """
    walks = [[first]]
    met = {first: True}
    at = 0
    # The walks are lengthened in the order of their lengths and, if equally long, from the least one on,
    # so the first one that can be closed is the one that is looked for.
    while at < len(walks):
        walk = walks[at]
        following = targets[walk[-1]]
        if first in following:
            return walk + [first]
        for event in following:
            if event > first and event not in met:
                met[event] = True
                walks.append(walk + [event])
        at += 1
    return None


def is_rate_paper(work, paper):
    """Return True if a tuple of three lists is a rate paper of the work."""
    rates, circuits, potentials = paper
    size = len(work)
    if len(rates) != size or len(circuits) != size or len(potentials) != size:
        return False
    for event in range(size):
        if not _proves_rate(work, event, rates[event], circuits[event]):
            return False
        if potentials[event] is None or not is_fraction(potentials[event]):
            return False
    return _potentials_fit(work, rates, potentials)


def _proves_rate(work, event, rate, circuit):
    """Return True if the circuit shows that the event has at least the rate."""
    if rate is None or circuit is None:
        return rate is None and circuit is None
    if not is_circuit(work, circuit):
        return False
    # The mean is in lowest terms, so a rate of another form is not equal to it.
    mean = over(walk_time(work, circuit), (len(circuit) - 1, 1))
    return mean == rate and event in reached_from(work, circuit[0])


def _potentials_fit(work, rates, potentials):
    """Return True if the potentials show that no event has more than its rate."""
    for i in range(len(work)):
        for j in range(len(work)):
            if work[i][j] is not None:
                if not _step_fits(work[i][j], rates[i], rates[j], potentials[i], potentials[j]):
                    return False
    return True


def _step_fits(time, rate, source_rate, potential, source_potential):
    if source_rate is None:
        return rate is not None or is_less(source_potential, potential)
    # The rate None is less than that of the source, and so it does not fit.
    if is_less(source_rate, rate):
        return True
    return source_rate == rate and not is_less(plus(rate, potential), plus(time, source_potential))
