"""Timetables: whether they hold, the least ones for a period, and for how long delays are felt."""

from latelaw.equations import least_solution
from latelaw.errors import OutOfRange, TooLong
from latelaw.moments import at_most, is_less, latest, minus, plus
from latelaw.rates import all_rates, least_circuit
from latelaw.whole import arms_of, common_part, whole_numbers
from latelaw.works import lessened, next_round

MOST_ROUNDS = 2000


def holds(work, moments, period):
    """Return True if the timetable of these moments and this period holds."""
    return at_most(next_round(work, moments), [plus(moment, period) for moment in moments])


def least_period(work):
    """Return the greatest rate of an event, None if no event has a rate."""
    return latest(all_rates(work))


def plan(work, period):
    """Return the least moments from 0 on that hold with the period, None if there are none."""
    if is_less(period, least_period(work)):
        return None
    return least_solution(lessened(work, period), [(0, 1) for _ in work])


def end_of_delays(work, moments, period, delays):
    """Return ("over", T), or ("forever", circuit) if a delay is felt for ever."""
    if not holds(work, moments, period):
        raise OutOfRange("the timetable does not hold")
    if any(is_less(delay, (0, 1)) for delay in delays):
        raise OutOfRange("a delay is below 0")
    losses = _losses(work, moments, period)
    circuit = _circuit_for_ever(losses, delays)
    if circuit is not None:
        return ("forever", circuit)
    return ("over", _rounds_until_over(losses, delays))


def _losses(work, moments, period):
    """Return at i, j the slack of i and j below 0: what a delay of j loses on its way to i."""
    planned = [plus(moment, period) for moment in moments]
    return [
        [plus(time, minus(moment, end)) for time, moment in zip(row, moments)] for row, end in zip(work, planned)
    ]


def _circuit_for_ever(losses, delays):
    """Return the least one of the shortest tight circuits round which a delay is felt for ever, or None."""
    # As no loss is above 0, this has for each event the greatest part of a delay that ever comes to it.
    felt = least_solution(losses, delays)
    late = [event for event in range(len(felt)) if is_less((0, 1), felt[event])]
    # A delay goes round a tight circuit as it is, so such a circuit is late at all of its events or at none.
    targets = [
        [i for i in late if j in late and losses[i][j] == (0, 1)] for j in range(len(losses))
    ]
    found = None
    for first in late:
        circuit = least_circuit(targets, first)
        # Of equally short circuits the one that is found first begins with the least event.
        if circuit is not None and (found is None or len(circuit) < len(found)):
            found = circuit
    return found


def _rounds_until_over(losses, delays):
    """Return the first round in which all delays are 0. There is such a round."""
    part = common_part(losses + [delays])
    rows = [arms_of(whole_numbers(row, part)) for row in losses]
    left = whole_numbers(delays, part)
    rounds = 0
    while max(left) > 0:
        if rounds == MOST_ROUNDS:
            raise TooLong("the delays are not over early enough")
        left = [max([0] + [left[j] + loss for j, loss in arms]) for arms in rows]
        rounds += 1
    return rounds
