"""Runs: from which step they repeat themselves, and with which period."""

from latelaw.errors import OutOfRange, TooLong
from latelaw.rates import all_rates
from latelaw.whole import arms_of, common_part, whole_numbers

MOST_STEPS = 2000


def repeating(work, vector):
    """Return (T, c): the least period c of a run, and the least step T from which it repeats with c."""
    run = Run(work, vector)
    end = 1
    period = run.period_before(end)
    # The shortest run that shows a period at its end shows the least one, so short runs are tried first.
    while period is None and end < MOST_STEPS:
        end = min(2 * end, MOST_STEPS)
        period = run.period_before(end)
    if period is None:
        raise TooLong("the run does not repeat early enough")
    return (run.first_start(end - period, period), period)


def repeats(work, vector, start, period):
    """Return True if a run repeats from a step with a period."""
    if start < 0 or period < 1:
        raise OutOfRange("the step is below 0, or the period is below 1")
    if start + period > MOST_STEPS:
        raise TooLong("the step and the period are too great")
    return Run(work, vector).shows(start, period)


class Run:
    """A run that is followed step by step.

    offsets[k] has for each event with a rate its moment after k steps less k times its rate.
    settled[k] tells whether the step after k steps follows from waits between equal rates alone.
    """

    def __init__(self, work, vector):
        rates = all_rates(work)
        # All fractions are taken as whole numbers of one part, as sums of these are much quicker.
        part = common_part(work + [vector, rates])
        self.rates = whole_numbers(rates, part)
        self.arms = [arms_of(whole_numbers(row, part)) for row in work]
        self.near = [
            [(j, time) for j, time in arms if rates[j] == rate] for arms, rate in zip(self.arms, rates)
        ]
        self.vector = whole_numbers(vector, part)
        self.offsets = [self.offset(0)]
        self.settled = []

    def offset(self, steps):
        """Return the moments of the present vector less so many times the rates."""
        return [_less_steps(moment, steps, rate) for moment, rate in zip(self.vector, self.rates)]

    def follow(self, steps):
        """Go on until so many steps are known."""
        while len(self.settled) < steps:
            following = _latest_sums(self.arms, self.vector)
            self.settled.append(self.is_settled(following))
            self.vector = following
            self.offsets.append(self.offset(len(self.settled)))

    def is_settled(self, following):
        """Return True if the step from the present vector to the following one is settled."""
        nearest = _latest_sums(self.near, self.vector)
        for event in range(len(following)):
            if self.rates[event] is None:
                if self.vector[event] is not None:
                    return False
            elif following[event] != nearest[event]:
                return False
        return True

    def shows(self, start, period):
        """Return True if the run repeats from a step with a period."""
        self.follow(start + period)
        return self.offsets[start] == self.offsets[start + period] and all(self.settled[start:start + period])

    def period_before(self, end):
        """Return the least period with which the run repeats from so many steps before the end, or None."""
        self.follow(end)
        start = end - 1
        while start >= 0 and self.settled[start]:
            if self.offsets[start] == self.offsets[end]:
                return end - start
            start -= 1
        return None

    def first_start(self, start, period):
        """Return the least step from which the run repeats with a period, as it does from the start."""
        while start > 0 and self.settled[start - 1] and self.offsets[start - 1] == self.offsets[start - 1 + period]:
            start -= 1
        return start


def _latest_sums(rows, vector):
    """Return the latest sum of each row of arms, None where there is none."""
    return [max([vector[j] + time for j, time in arms if vector[j] is not None], default=None) for arms in rows]


def _less_steps(moment, steps, rate):
    if rate is None:
        return None
    return moment - steps * rate
