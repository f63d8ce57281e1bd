"""Games: works in which late events wait for the latest of others, and early ones for the earliest."""

from latelaw.errors import BadWork, OutOfRange, TooLong
from latelaw.moments import earliest, fraction, is_fraction, is_less, latest, over, plus
from latelaw.whole import arms_of, common_part, whole_numbers
from latelaw.works import check_work, has_empty_row

LATE = "late"
EARLY = "early"
MOST_STEPS = 1000


def check_mixed(mixed):
    """Return None if a work with sides is valid, and raise BadWork otherwise."""
    work, sides = mixed
    check_work(work)
    if len(sides) != len(work):
        raise BadWork("there is not one side for each event")
    for side in sides:
        if side not in (LATE, EARLY):
            raise BadWork("a side is neither late nor early")
    if has_empty_row(work):
        raise BadWork("an event has no arm")


def mixed_round(mixed, vector):
    """Return the vector of the round after that of a finite vector."""
    work, sides = mixed
    return [_decided_moment(side, arms_of(row), vector) for side, row in zip(sides, work)]


def _decided_moment(side, arms, vector):
    sums = [plus(time, vector[j]) for j, time in arms]
    if side == LATE:
        return latest(sums)
    return earliest(sums)


def mixed_repeating(mixed):
    """Return (T, c): the least period c of the run from zeros, and the least step T from which it repeats with c."""
    return _repeating(MixedRun(mixed))


def _repeating(run):
    end = 2
    period = run.period_before(end)
    # The shortest run that shows a period at its end shows the least one, so short runs are tried first.
    while period is None and end < MOST_STEPS:
        end = min(2 * end, MOST_STEPS)
        period = run.period_before(end)
    if period is None:
        raise TooLong("the run does not repeat early enough")
    return (run.first_start(end - 2 * period, period), period)


def game_paper(mixed):
    """Return the computed game paper of a mixed work."""
    run = MixedRun(mixed)
    start, period = _repeating(run)
    differences = run.differences(start, period)
    rates = [fraction(gain, period * run.part) for gain in run.gains(start, period)]
    lows = [fraction(max(row), period * run.part) for row in differences]
    highs = [fraction(min(row), period * run.part) for row in differences]
    return (rates, lows, highs)


class MixedRun:
    """The run of a mixed work from zeros, followed step by step in whole numbers of one part of 1."""

    def __init__(self, mixed):
        work, sides = mixed
        self.part = common_part(work)
        self.arms = [arms_of(whole_numbers(row, self.part)) for row in work]
        self.sides = list(sides)
        self.vectors = [[0 for _ in work]]

    def follow(self, steps):
        """Go on until so many steps are known."""
        while len(self.vectors) <= steps:
            last = self.vectors[-1]
            self.vectors.append([
                _decided(side, [last[j] + time for j, time in arms]) for side, arms in zip(self.sides, self.arms)
            ])

    def gains(self, start, period):
        """Return by how much a period from a step on raises each event."""
        return [after - before for before, after in zip(self.vectors[start], self.vectors[start + period])]

    def can_last(self, gains):
        """Return True if no arm will overtake, by gaining so much again and again, the ones that decide now."""
        for side, arms, gain in zip(self.sides, self.arms, gains):
            if gain != _decided(side, [gains[j] for j, _ in arms]):
                return False
        return True

    def shows(self, start, period):
        """Return True if the run repeats from a step with a period, as two periods show.

        If all gains of a period are the same throughout a second one, then in each step the arms that decide have
        the gain of their event. If the gains can last, no other arms will ever decide, and so all goes on like this.
        """
        gains = self.gains(start, period)
        if not self.can_last(gains):
            return False
        return all(self.gains(start + k, period) == gains for k in range(1, period + 1))

    def period_before(self, end):
        """Return the least period with which the run repeats from two periods before the end, or None."""
        self.follow(end)
        for period in range(1, end // 2 + 1):
            if self.shows(end - 2 * period, period):
                return period
        return None

    def first_start(self, start, period):
        """Return the least step from which the run repeats with a period, as it does from the start."""
        gains = self.gains(start, period)
        while start > 0 and self.gains(start - 1, period) == gains:
            start -= 1
        return start

    def differences(self, start, period):
        """Return for each event its moments in a period less so many times its rate as there are steps before them.

        All are told as numbers of parts that are as many times smaller as the period has steps.
        """
        gains = self.gains(start, period)
        steps = range(start, start + period)
        return [
            [self.vectors[k][event] * period - k * gains[event] for k in steps] for event in range(len(gains))
        ]


def _decided(side, numbers):
    if side == LATE:
        return max(numbers)
    return min(numbers)


def is_game_paper(mixed, paper):
    """Return True if a tuple of three lists is a game paper of the mixed work."""
    work, sides = mixed
    for column in paper:
        if len(column) != len(work) or not all(is_fraction(pair) for pair in column):
            return False
    for event, side in enumerate(sides):
        arms = [arm for arm, _ in arms_of(work[event])]
        below = [_is_good_below(work, paper, event, arm) for arm in arms]
        above = [_is_good_above(work, paper, event, arm) for arm in arms]
        if side == LATE and not (any(below) and all(above)):
            return False
        if side == EARLY and not (all(below) and any(above)):
            return False
    return True


def _is_good_below(work, paper, event, arm):
    rates, lows, _ = paper
    if rates[arm] != rates[event]:
        return is_less(rates[event], rates[arm])
    return not is_less(plus(work[event][arm], lows[arm]), plus(rates[event], lows[event]))


def _is_good_above(work, paper, event, arm):
    rates, _, highs = paper
    if rates[arm] != rates[event]:
        return is_less(rates[arm], rates[event])
    return not is_less(plus(rates[event], highs[event]), plus(work[event][arm], highs[arm]))


def choice_of(mixed, paper):
    """Return the choice of a game paper, an arm of each event."""
    work, sides = mixed
    return [_good_arm(work, paper, event, side) for event, side in enumerate(sides)]


def _good_arm(work, paper, event, side):
    """Return the least arm of an event that is good for its side. A game paper has one."""
    arms = [arm for arm, _ in arms_of(work[event])]
    if side == LATE:
        return [arm for arm in arms if _is_good_below(work, paper, event, arm)][0]
    return [arm for arm in arms if _is_good_above(work, paper, event, arm)][0]


def outcome(mixed, choice):
    """Return for each event (mean, circuit), where circuit is what its chosen arms lead to."""
    work, _ = mixed
    if not _is_choice(work, choice):
        raise OutOfRange("the list is not a choice")
    return [_outcome_from(work, choice, event) for event in range(len(work))]


def _is_choice(work, choice):
    if len(choice) != len(work):
        return False
    for row, arm in zip(work, choice):
        # Python would take a negative index from the end of the list.
        if not 0 <= arm < len(row) or row[arm] is None:
            return False
    return True


def _outcome_from(work, choice, event):
    on_circuit = event
    # No way is longer than the number of events before it comes to its circuit.
    for _ in choice:
        on_circuit = choice[on_circuit]
    circuit = _round_trip(choice, min(_round_trip(choice, on_circuit)))
    time = (0, 1)
    for i in circuit[1:]:
        time = plus(time, work[i][choice[i]])
    return (over(time, (len(circuit) - 1, 1)), circuit)


def _round_trip(choice, first):
    """Return the events from one of a circuit round to it again."""
    found = [first, choice[first]]
    while found[-1] != first:
        found.append(choice[found[-1]])
    return found
