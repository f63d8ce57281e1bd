"""Points 14 to 16: runs that repeat."""

import inspect
import unittest

from latelaw import runs
from latelaw.errors import OutOfRange, TooLong
from latelaw.runs import repeating, repeats
from tests.helpers import Samples, beside, check_call, check_refused, pair, ring, slow_rates, value_of, whole


def slow_run(work, vector, steps):
    """The vectors of a run as Fractions."""
    times = [[value_of(moment) for moment in row] for row in work]
    found = [[value_of(moment) for moment in vector]]
    for _ in range(steps):
        last = found[-1]
        found.append([
            max((time + last[j] for j, time in enumerate(row) if time is not None and last[j] is not None),
                default=None)
            for row in times
        ])
    return found


def agrees(run, rates, k, period):
    """The condition of point 14 for one k."""
    for before, after, rate in zip(run[k], run[k + period], rates):
        if rate is None:
            if before is not None or after is not None:
                return False
        elif after != before + period * rate:
            return False
    return True


def slow_start(run, rates, period):
    """The least step from which a run that is known up to some step repeats, as far as it is known."""
    k = len(run) - 1 - period
    while k >= 0 and agrees(run, rates, k, period):
        k -= 1
    return k + 1


def slow_repeating(run, rates):
    """The repeating by point 14, if it can be seen in the first half of what is known."""
    half = len(run) // 2
    for period in range(1, half):
        start = slow_start(run, rates, period)
        if start + period <= half:
            return (start, period)
    return None


def late_run(steps):
    """A work and a vector whose run repeats from the step steps + 1 with the period 1.

    Event 2 waits for event 0, which stands still, until event 1 comes up with it by thousandths.
    """
    work = [whole(0, None, None), [None, (1, 1000), None], whole(0, 0, None)]
    return (work, [pair(value_of((steps, 1)) / 1000), (0, 1), (0, 1)])


def late_rings(steps):
    """A late run between rings of 5 and 4 events, which have a period of 20."""
    late, vector = late_run(steps)
    return (beside(ring(5, (1, 2)), late, ring(4, (-3, 1))), whole(0, 0, 0, 0, 1) + vector + whole(0, 0, 0, 1))


class Repeating(unittest.TestCase):
    def check(self, work, vector, expected):
        found = check_call(self, repeating, work, vector)
        self.assertEqual(found, expected)
        self.assertIs(type(found), tuple)
        start, period = expected
        self.assertIs(check_call(self, repeats, work, vector, start, period), True)
        if start > 0:
            self.assertIs(repeats(work, vector, start - 1, period), False)

    def test_one_event(self):
        for moment in ((0, 1), (1, 1), (-3, 2), (1, 1000000)):
            for begin in ((0, 1), (7, 3), (-5, 1)):
                self.check([[moment]], [begin], (0, 1))
                # Without a rate, the moment has to be None first.
                self.check([[None]], [begin], (1, 1))

    def test_period_1_from_step_0(self):
        self.check(ring(5, (3, 1)), whole(2, 2, 2, 2, 2), (0, 1))
        self.check([whole(None, 3), whole(4, None)], [(0, 1), (1, 2)], (0, 1))
        self.check(beside(ring(2, (1, 1)), ring(3, (-1, 3))), whole(5, 5, 8, 8, 8), (0, 1))

    def test_periods_of_one_ring(self):
        for size in range(2, 13):
            self.check(ring(size, (1, 3)), whole(5, *[0] * (size - 1)), (0, size))
        self.check(ring(4, (2, 1)), whole(0, 1, 0, 1), (0, 2))
        self.check(ring(6, (2, 1)), whole(0, 1, 2, 0, 1, 2), (0, 3))
        self.check(ring(6, (2, 1)), whole(0, 1, 2, 0, 1, 3), (0, 6))

    def test_rings_of_different_lengths_together(self):
        for sizes, period in (((2, 3), 6), ((2, 4), 4), ((3, 4, 5), 60), ((2, 3, 7), 42), ((5, 7), 35), ((4, 6), 12)):
            for moments in (((1, 1),) * 3, ((1, 1), (-1, 2), (3, 7))):
                work = beside(*[ring(size, moment) for size, moment in zip(sizes, moments)])
                vector = [moment for size in sizes for moment in whole(1, *[0] * (size - 1))]
                self.check(work, vector, (0, period))

    def test_a_later_start(self):
        # Event 1 is held up by event 0 only at the beginning.
        self.check([whole(0, None), whole(0, 1)], whole(10, 0), (1, 1))
        self.check([whole(0, None, None), whole(None, 1, None), whole(0, 0, None)], whole(10, 0, 0), (11, 1))
        # Event 2 waits for event 1 only, and event 1 for itself and event 0.
        self.check([whole(0, None, None), whole(0, 0, None), whole(None, 0, None)], whole(3, 0, 0), (2, 1))

    def test_events_without_a_rate(self):
        for size in (1, 2, 5, 12):
            chain = ring(size, (4, 1))
            chain[0][size - 1] = None
            self.check(chain, whole(*range(size)), (size, 1))
        work = beside(ring(3, (1, 1)), [whole(None)], [whole(None)])
        work[4][3] = (1, 1)
        work[0][4] = (-100, 1)
        self.check(work, whole(0, 0, 1, 0, 0), (2, 3))
        work[0][4] = (50, 1)
        self.check(work, whole(0, 0, 1, 0, 0), (2, 3))

    def test_equal_distances_that_do_not_last(self):
        # After one step all events have gone on by their rates, but event 2 still waits for event 1, which is slower.
        work = [whole(1, None, None), whole(None, 0, None), whole(0, 0, None)]
        vector = whole(0, 10, 9)
        self.check(work, vector, (11, 1))
        for period in (1, 2, 3, 50):
            self.assertIs(repeats(work, vector, 0, period), False)

    def test_late_because_of_a_small_difference_of_rates(self):
        for steps in (1, 2, 99, 500, 998):
            self.check(*late_run(steps), (steps + 1, 1))
            self.check(*late_rings(steps), (steps + 1, 20))

    def test_exactly_2000(self):
        self.check(*late_run(1998), (1999, 1))
        self.check(*late_rings(1979), (1980, 20))

    def test_more_than_2000_is_refused(self):
        for steps in (1999, 2000, 2500, 10 ** 9):
            check_refused(self, TooLong, repeating, *late_run(steps))
        for steps in (1980, 1981, 1998, 1999, 10 ** 9):
            check_refused(self, TooLong, repeating, *late_rings(steps))
        work = [[(0, 1), None, None], [None, (1, 1000000), None], whole(0, 0, None)]
        check_refused(self, TooLong, repeating, work, whole(10 ** 30, 0, 0))

    def test_sums_near_powers_of_2(self):
        for steps in (14, 15, 29, 30, 31, 32, 61, 62, 63, 64, 510, 511, 1021, 1022, 1023, 1024):
            self.check(*late_run(steps), (steps + 1, 1))

    def test_large_parts_are_exact(self):
        little = (1, 10 ** 40)
        work, vector = late_run(5)
        for change, start in ((0, 6), (1, 7), (-1, 6), (2, 7)):
            moment = pair(value_of(vector[0]) + change * value_of(little))
            self.check(work, [moment] + vector[1:], (start, 1))
        self.check(ring(2, (1, 999983)), [little, (0, 1)], (0, 2))
        self.check(ring(3, (-1000000, 999983)), [little, little, little], (0, 1))

    def test_samples_agree_with_the_definition(self):
        samples = Samples(40)
        seen = {}
        for work in samples.works(80, 4) + [samples.work(6, 8) for _ in range(8)]:
            size = len(work)
            for vector in (whole(*[0] * size), samples.vector(size, 0)):
                run = slow_run(work, vector, 240)
                expected = slow_repeating(run, slow_rates(work))
                if expected is not None:
                    self.assertEqual(check_call(self, repeating, work, vector), expected, (work, vector))
                    seen[expected] = True
        self.assertGreater(len(seen), 12)
        self.assertGreater(max(period for _, period in seen), 2)


class Repeats(unittest.TestCase):
    def test_answers_by_hand(self):
        work, vector = ring(4, (1, 1)), whole(0, 0, 0, 7)
        for start in (0, 1, 5):
            for period in range(1, 17):
                self.assertIs(check_call(self, repeats, work, vector, start, period), period % 4 == 0)

    def test_step_before_and_multiples(self):
        for work, vector, start, period in (
            (*late_run(30), 31, 1), (*late_rings(25), 26, 20),
            (beside(ring(2, (1, 1)), ring(3, (1, 2))), whole(1, 0, 1, 0, 0), 0, 6),
        ):
            self.assertEqual(repeating(work, vector), (start, period))
            for begin in (0, start - 2, start - 1, start, start + 1, start + 17):
                if begin >= 0:
                    for many in range(1, 3 * period + 2):
                        expected = begin >= start and many % period == 0
                        self.assertIs(repeats(work, vector, begin, many), expected, (begin, many))

    def test_events_without_a_rate_have_to_be_none(self):
        self.assertIs(repeats([[None]], whole(0), 0, 1), False)
        self.assertIs(repeats([[None]], whole(0), 0, 5), False)
        self.assertIs(repeats([[None]], whole(0), 1, 1), True)
        work = [whole(None, None), whole(None, 3)]
        self.assertIs(repeats(work, whole(0, 0), 0, 1), False)
        self.assertIs(repeats(work, whole(0, 0), 1, 1), True)

    def test_samples_agree_with_the_definition(self):
        samples = Samples(41)
        answers = {True: 0, False: 0}
        for work in samples.works(60, 4):
            vector = samples.vector(len(work), 0)
            run = slow_run(work, vector, 200)
            rates = slow_rates(work)
            for period in (1, 2, 3, 4, 6):
                first = slow_start(run, rates, period)
                for start in range(12):
                    expected = first <= start
                    self.assertIs(repeats(work, vector, start, period), expected, (work, vector, start, period))
                    answers[expected] += 1
        self.assertGreater(min(answers.values()), 500, answers)

    def test_start_below_0_and_period_below_1_are_refused(self):
        work, vector = ring(2, (1, 1)), whole(0, 0)
        for start, period in (
            (-1, 1), (-1, 2), (-5, 100), (0, 0), (0, -1), (3, 0), (-1, 0), (-1, -1), (-1, 2000), (-1, 2001), (-1, 2002),
            (-5, 5000), (2000, 0), (2001, 0), (5000, -1), (5000, -4000), (10 ** 30, 0), (-1, 10 ** 30),
        ):
            check_refused(self, OutOfRange, repeats, work, vector, start, period)

    def test_sums_of_exactly_2000(self):
        work, vector = late_rings(1979)
        for start, period in ((1980, 20), (1960, 40), (1979, 21), (1979, 1), (1999, 1), (0, 2000), (1000, 1000)):
            self.assertIs(repeats(work, vector, start, period), (start, period) == (1980, 20), (start, period))
        work, vector = ring(4, (2, 3)), whole(0, 0, 0, 1)
        for start, period in ((0, 2000), (1996, 4), (1000, 1000), (4, 1996), (1999, 1), (1, 1999), (1000, 999)):
            self.assertIs(repeats(work, vector, start, period), period % 4 == 0, (start, period))

    def test_sums_of_2001_and_more_are_refused(self):
        work, vector = ring(4, (2, 3)), whole(0, 0, 0, 0)
        for start, period in (
            (0, 2001), (1, 2000), (2000, 1), (1999, 2), (1001, 1000), (1997, 4), (0, 2002), (2001, 1), (0, 10 ** 30),
            (10 ** 30, 1),
        ):
            check_refused(self, TooLong, repeats, work, vector, start, period)
        check_refused(self, TooLong, repeats, *late_rings(1979), 1981, 20)


class Interface(unittest.TestCase):
    def test_names_and_arguments(self):
        expected = {"repeating": ["work", "vector"], "repeats": ["work", "vector", "start", "period"]}
        for name, arguments in expected.items():
            function = getattr(runs, name)
            self.assertEqual(list(inspect.signature(function).parameters), arguments, name)
            self.assertEqual(function.__module__, "latelaw.runs")


if __name__ == "__main__":
    unittest.main()
