"""Points 20 to 23: timetables, plans and the end of delays."""

import inspect
import unittest
from fractions import Fraction

from latelaw import timetables
from latelaw.equations import least_solution
from latelaw.errors import OutOfRange, TooLong
from latelaw.moments import at_most
from latelaw.timetables import end_of_delays, holds, least_period, plan
from latelaw.works import lessened
from tests.helpers import Samples, all_circuits, beside, check_call, check_plain, check_refused, pair, ring
from tests.helpers import short_walks, slow_mean, slow_rates, slow_time, value_of, whole

LITTLE = Fraction(1, 10 ** 20)


def slow_slacks(work, moments, period):
    """The slacks at (to, from), as Fractions."""
    return {
        (i, j): value_of(moments[i]) + value_of(period) - value_of(work[i][j]) - value_of(moments[j])
        for i in range(len(work)) for j in range(len(work)) if work[i][j] is not None
    }


def slow_holds(work, moments, period):
    return all(slack >= 0 for slack in slow_slacks(work, moments, period).values())


def slow_plan(work, period):
    """The plan by point 21, from all short walks."""
    rates = [rate for rate in slow_rates(work) if rate is not None]
    if rates and value_of(period) < max(rates):
        return None
    found = [Fraction(0)] * len(work)
    for walk in short_walks(work):
        moment = slow_time(work, walk) - (len(walk) - 1) * value_of(period)
        found[walk[-1]] = max(found[walk[-1]], moment)
    return [pair(moment) for moment in found]


def delays_after(slacks, delays):
    """The delays of the next round by point 22."""
    return [
        max([Fraction(0)] + [delays[j] - slack for (to, j), slack in slacks.items() if to == i])
        for i in range(len(delays))
    ]


def felt_circuits(work, slacks, delays):
    """All tight circuits round which a delay is felt for ever, by point 23."""
    reached = set()
    for walk in short_walks(work):
        if delays[walk[0]] > 0 and sum((slacks[i, j] for j, i in zip(walk, walk[1:])), Fraction(0)) < delays[walk[0]]:
            reached.add(walk[-1])
    return [
        circuit for circuit in all_circuits(work)
        if all(slacks[i, j] == 0 for j, i in zip(circuit, circuit[1:])) and reached & set(circuit)
    ]


def slow_end(work, moments, period, delays):
    """The end of delays by points 22 and 23, None if it is refused."""
    slacks = slow_slacks(work, moments, period)
    left = [value_of(delay) for delay in delays]
    circuits = felt_circuits(work, slacks, left)
    if circuits:
        return ("forever", min(circuits, key=lambda circuit: (len(circuit), circuit)))
    rounds = 0
    while any(left):
        left = delays_after(slacks, left)
        rounds += 1
    return ("over", rounds) if rounds <= 2000 else None


class Holds(unittest.TestCase):
    WORK = [whole(None, 3, None), whole(1, None, 4), [(1, 2), None, (-5, 1)]]

    def test_every_slack_is_0(self):
        work = [whole(2, 5), whole(-1, 2)]
        self.assertIs(check_call(self, holds, work, whole(3, 0), (2, 1)), True)
        self.assertIs(check_call(self, holds, ring(5, (1, 3)), whole(7, 7, 7, 7, 7), (1, 3)), True)
        self.assertIs(holds([[(0, 1)]], [(5, 1)], (0, 1)), True)

    def test_a_single_slack_just_below_0(self):
        moments, period = [(2, 1), (1, 1), (0, 1)], (3, 1)
        for i, j in ((0, 1), (1, 0), (1, 2), (2, 0), (2, 2)):
            work = [list(row) for row in self.WORK]
            tight = pair(value_of(moments[i]) + 3 - value_of(moments[j]))
            work[i][j] = tight
            self.assertIs(check_call(self, holds, work, moments, period), True, (i, j))
            work[i][j] = pair(value_of(tight) + Fraction(1, 1000000))
            self.assertIs(check_call(self, holds, work, moments, period), False, (i, j))
        tight = ring(4, (1, 1))
        for size in (LITTLE, -LITTLE):
            self.assertIs(holds(tight, whole(0, 0, 0, 0), pair(1 + size)), size > 0)
            self.assertIs(holds(tight, [pair(size)] + whole(0, 0, 0), (1, 1)), False)

    def test_rows_without_a_moment(self):
        work = [whole(None, None), whole(2, None)]
        self.assertIs(check_call(self, holds, work, whole(-1000, 0), (-5, 1)), True)
        self.assertIs(check_call(self, holds, work, whole(0, 7), (-5, 1)), True)
        self.assertIs(check_call(self, holds, work, whole(0, 7), (-6, 1)), False)
        nothing = [[None] * 3 for _ in range(3)]
        self.assertIs(holds(nothing, whole(5, 0, -5), (-1000000, 1)), True)

    def test_negative_moments_and_periods(self):
        self.assertIs(holds([whole(-2, -5), whole(1, -2)], whole(-3, 0), (-2, 1)), True)
        self.assertIs(holds([whole(-2, -5), whole(1, -2)], whole(-3, -1), (-2, 1)), False)

    def test_samples_agree_with_the_definition(self):
        samples = Samples(60)
        answers = {True: 0, False: 0}
        for work in samples.works(150, 5):
            for _ in range(4):
                moments, period = samples.vector(len(work), 0), (samples.number(25) - 5, 1)
                expected = slow_holds(work, moments, period)
                self.assertIs(check_call(self, holds, work, moments, period), expected)
                answers[expected] += 1
        self.assertGreater(min(answers.values()), 100, answers)


class LeastPeriods(unittest.TestCase):
    def test_by_hand(self):
        cases = [
            ([whole(None)], None),
            ([whole(None, None), whole(5, None)], None),
            ([whole(-3)], (-3, 1)),
            ([whole(0, None), whole(5, None)], (0, 1)),
            (beside(ring(2, (1, 2)), [[(-2, 1)]], [[None]]), (1, 2)),
            (beside([whole(-4)], [whole(-3, None), whole(9, -5)]), (-3, 1)),
            ([whole(2, 5), whole(3, None)], (4, 1)),
            ([whole(None, 1, None), whole(None, None, 0), whole(0, None, None)], (1, 3)),
            ([whole(None, 3), whole(-3, None)], (0, 1)),
        ]
        for work, expected in cases:
            self.assertEqual(check_call(self, least_period, work), expected, work)

    def test_samples_agree_with_all_circuits(self):
        samples = Samples(61)
        for work in samples.works(80, 5):
            expected = pair(max((rate for rate in slow_rates(work) if rate is not None), default=None))
            found = check_call(self, least_period, work)
            check_plain(self, found)
            self.assertEqual(found, expected)


class Plans(unittest.TestCase):
    WORK = [whole(2, 5), whole(3, None)]

    def test_by_hand(self):
        self.assertEqual(check_call(self, plan, self.WORK, (4, 1)), whole(1, 0))
        self.assertEqual(check_call(self, plan, self.WORK, (9, 2)), [(1, 2), (0, 1)])
        self.assertEqual(check_call(self, plan, self.WORK, (100, 1)), whole(0, 0))
        self.assertIsNone(check_call(self, plan, self.WORK, (3999999, 1000000)))
        self.assertIsNone(check_call(self, plan, self.WORK, (-4, 1)))

    def test_least_period_and_a_little_less_and_more(self):
        samples = Samples(62)
        for work in samples.works(60, 5) + [ring(12, (1, 7))]:
            least = least_period(work)
            if least is None:
                continue
            self.assertIsNone(check_call(self, plan, work, pair(value_of(least) - LITTLE)))
            for more in (Fraction(0), LITTLE, Fraction(1, 3), Fraction(50)):
                period = pair(value_of(least) + more)
                self.assertTrue(holds(work, check_call(self, plan, work, period), period))

    def test_no_least_period(self):
        chain = [whole(None, None, None), whole(2, None, None), whole(None, 3, None)]
        self.assertEqual(check_call(self, plan, chain, (0, 1)), whole(0, 2, 5))
        self.assertEqual(check_call(self, plan, chain, (-10, 1)), whole(0, 12, 25))
        self.assertEqual(check_call(self, plan, chain, (5, 2)), [(0, 1), (0, 1), (1, 2)])
        self.assertEqual(check_call(self, plan, chain, (1000, 1)), whole(0, 0, 0))
        self.assertEqual(check_call(self, plan, [[None]], (-1000000, 1)), whole(0))

    def test_a_plan_waits_for_walks_of_all_lengths(self):
        for size in (2, 5, 12):
            chain = ring(size, (7, 2))
            chain[0][size - 1] = None
            self.assertEqual(plan(chain, (1, 2)), whole(*[3 * event for event in range(size)]))
            chain[0][size - 1] = (-1000, 1)
            self.assertEqual(plan(chain, (1, 2)), whole(*[3 * event for event in range(size)]))

    def test_samples_agree_with_all_short_walks(self):
        samples = Samples(63)
        answers = {True: 0, False: 0}
        for work in samples.works(120, 5):
            for _ in range(3):
                period = (samples.number(24) - 8, 1)
                found, expected = check_call(self, plan, work, period), slow_plan(work, period)
                self.assertEqual(found, expected, (work, period))
                answers[found is None] += 1
                for moment in found or []:
                    check_plain(self, moment)
        self.assertGreater(min(answers.values()), 50, answers)

    def test_no_timetable_that_holds_is_less(self):
        samples = Samples(64)
        others = 0
        for work in samples.works(60, 5):
            period = (11, 1)
            found = plan(work, period)
            self.assertTrue(slow_holds(work, found, period))
            self.assertTrue(all(value_of(moment) >= 0 for moment in found))
            for _ in range(5):
                begin = [pair(abs(value_of(moment))) for moment in samples.vector(len(work), 0)]
                other = least_solution(lessened(work, period), begin)
                self.assertTrue(slow_holds(work, other, period))
                self.assertTrue(at_most(found, other))
                others += found != other
            for event in range(len(work)):
                less = list(found)
                less[event] = pair(value_of(found[event]) - LITTLE)
                # What is not held up by any walk stands at 0.
                if value_of(less[event]) >= 0 and slow_holds(work, less, period):
                    self.fail((work, found, event))
        self.assertGreater(others, 100)

    def test_no_timetable_below_the_least_period_holds(self):
        samples = Samples(65)
        for work in samples.works(60, 4):
            least = least_period(work)
            if least is not None:
                for _ in range(10):
                    moments = samples.vector(len(work), 0)
                    self.assertIs(holds(work, moments, pair(value_of(least) - LITTLE)), False)


class EndsOfDelays(unittest.TestCase):
    def check(self, expected, *arguments):
        found = check_call(self, end_of_delays, *arguments)
        self.assertIs(type(found), tuple)
        self.assertEqual(found, expected, arguments)

    def test_no_delay(self):
        self.check(("over", 0), ring(3, (1, 1)), whole(0, 0, 0), (1, 1), whole(0, 0, 0))
        self.check(("over", 0), [[None]], whole(0), (-5, 1), whole(0))
        self.check(("over", 0), ring(3, (1, 1)), whole(0, 0, 0), (2, 1), whole(0, 0, 0))

    def test_over_in_round_1(self):
        self.check(("over", 1), [[None]], whole(0), (0, 1), whole(10 ** 6))
        self.check(("over", 1), [whole(1)], whole(7), (3, 1), whole(2))
        self.check(("over", 1), ring(3, (1, 1)), whole(0, 0, 0), (2, 1), [(1, 1), (1, 2), (0, 1)])

    def test_over_later(self):
        self.check(("over", 2), [whole(1)], whole(7), (3, 1), [(2000001, 1000000)])
        self.check(("over", 3), [whole(1)], whole(7), (3, 1), [(6, 1)])
        self.check(("over", 4), [whole(1)], whole(7), (3, 1), [(61, 10)])
        chain = [whole(None, None, None), whole(2, None, None), whole(None, 3, None)]
        self.check(("over", 3), chain, whole(0, 2, 5), (0, 1), whole(1, 0, 0))
        self.check(("over", 2), chain, whole(0, 2, 5), (0, 1), whole(0, 1, 0))
        self.check(("over", 1), chain, whole(0, 2, 5), (0, 1), whole(0, 0, 1))
        self.check(("over", 2), chain, whole(0, 2, 6), (0, 1), whole(1, 0, 0))
        self.check(("over", 1), chain, whole(0, 3, 6), (0, 1), whole(1, 0, 0))

    def test_great_delays_in_a_long_chain(self):
        chain = ring(12, (1, 3))
        chain[0][11] = None
        delays = [(10 ** 40, 1)] + whole(*[0] * 11)
        self.check(("over", 12), chain, whole(*[0] * 12), (1, 2), delays)

    def test_exactly_2000_and_2001(self):
        for work, moments, period, step in (
            ([whole(0)], whole(5), (1, 1), Fraction(1)),
            ([[(1, 3)]], whole(0), (1, 2), Fraction(1, 6)),
            (ring(2, (0, 1)), whole(0, 0), (1, 7), Fraction(1, 7)),
        ):
            rest = whole(*[0] * (len(work) - 1))
            for rounds in (1, 1000, 1999, 2000):
                for less in (Fraction(0), LITTLE, step * Fraction(999, 1000)):
                    delay = pair(rounds * step - less)
                    self.assertEqual(end_of_delays(work, moments, period, [delay] + rest), ("over", rounds))
            for more in (LITTLE, step, 5000 * step, Fraction(10 ** 30)):
                delays = [pair(2000 * step + more)] + rest
                check_refused(self, TooLong, end_of_delays, work, moments, period, delays)
        self.check(("over", 2000), [whole(0)], whole(5), (1, 1), whole(2000))

    def test_a_delay_that_is_felt_for_ever_is_not_refused(self):
        work = beside([whole(0)], [whole(1)])
        delays = [(10 ** 30, 1), (1, 10 ** 30)]
        self.check(("forever", [1, 1]), work, whole(0, 0), (1, 1), delays)
        check_refused(self, TooLong, end_of_delays, work, whole(0, 0), (1, 1), [(10 ** 30, 1), (0, 1)])

    def test_a_tight_circuit_that_is_reached_over_slacks(self):
        # The slack of events 1 and 0 is 3/2, that of events 2 and 1 is 1/2. Event 2 waits for itself without slack.
        work = [whole(None, None, None), [(-1, 2), None, None], [None, (1, 2), (1, 1)]]
        moments, period = whole(0, 0, 0), (1, 1)
        for delay, expected in (
            ((2, 1), ("over", 2)), (pair(2 - LITTLE), ("over", 2)), (pair(2 + LITTLE), ("forever", [2, 2])),
            ((3, 2), ("over", 1)), ((5, 2), ("forever", [2, 2])), ((10 ** 9, 1), ("forever", [2, 2])),
        ):
            self.check(expected, work, moments, period, [delay, (0, 1), (0, 1)])
        self.check(("over", 1), work, moments, period, [(0, 1), (1, 2), (0, 1)])
        self.check(("forever", [2, 2]), work, moments, period, [(0, 1), pair(Fraction(1, 2) + LITTLE), (0, 1)])
        self.check(("forever", [2, 2]), work, moments, period, [(0, 1), (0, 1), pair(LITTLE)])

    def test_a_walk_over_a_circuit_that_is_not_tight(self):
        work = [whole(0, 0, None), whole(0, None, None), whole(None, 0, 1)]
        self.check(("over", 2), work, whole(0, 0, 0), (1, 1), whole(2, 0, 0))
        self.check(("forever", [2, 2]), work, whole(0, 0, 0), (1, 1), [pair(2 + LITTLE), (0, 1), (0, 1)])

    def test_a_tight_circuit_that_is_not_reached(self):
        work = [whole(1, None), whole(1, None)]
        self.check(("over", 1), work, whole(0, 0), (1, 1), whole(0, 5))
        self.check(("forever", [0, 0]), work, whole(0, 0), (1, 1), whole(1, 0))

    def test_the_shortest_circuit_and_the_least_one_of_these(self):
        zeros = whole(0, 0, 0, 0, 0)
        every = [whole(1, 1, 1, 1, 1) for _ in range(5)]
        for event in range(5):
            every[event][event] = None
        self.check(("forever", [0, 1, 0]), every, zeros, (1, 1), whole(0, 0, 0, 0, 1))
        every[3][3] = (1, 1)
        self.check(("forever", [3, 3]), every, zeros, (1, 1), whole(1, 0, 0, 0, 0))
        every[3][3] = (0, 1)
        self.check(("forever", [0, 1, 0]), every, zeros, (1, 1), whole(1, 0, 0, 0, 0))
        every[0][1] = (0, 1)
        self.check(("forever", [0, 2, 0]), every, zeros, (1, 1), whole(1, 0, 0, 0, 0))
        rings = beside(ring(3, (1, 1)), ring(2, (1, 1)))
        self.check(("forever", [0, 1, 2, 0]), rings, zeros, (1, 1), whole(0, 0, 1, 0, 0))
        self.check(("forever", [3, 4, 3]), rings, zeros, (1, 1), whole(0, 1, 0, 0, 1))
        self.check(("forever", [3, 4, 3]), rings, zeros, (1, 1), whole(0, 0, 0, 0, 1))
        # The way round of a circuit counts: 0 comes before 2 here.
        work = [whole(None, 1, None), whole(None, None, 1), whole(1, None, None)]
        self.check(("forever", [0, 2, 1, 0]), work, whole(0, 0, 0), (1, 1), whole(0, 1, 0))

    def test_refused_arguments(self):
        work = [whole(0)]
        for moments, period, delays in (
            (whole(0), (-1, 1), whole(0)), (whole(0), (-1, 1), whole(5)), (whole(0), pair(-LITTLE), whole(0)),
            (whole(0), (1, 1), whole(-1)), (whole(0), (1, 1), [pair(-LITTLE)]), (whole(0), (-1, 1), whole(-1)),
            (whole(0), (0, 1), whole(-1)), (whole(0), (-1, 1), whole(10 ** 9)),
        ):
            check_refused(self, OutOfRange, end_of_delays, work, moments, period, delays)
        # These ends would be too late, or there would be none.
        two = beside([whole(0)], [whole(1)])
        for delays in (whole(10 ** 9, -1), whole(-1, 10 ** 9), whole(-1, 1)):
            check_refused(self, OutOfRange, end_of_delays, two, whole(0, 0), (1, 1), delays)
        for delays in (whole(10 ** 9, 0), whole(0, 1), whole(0, 0), whole(-1, 0)):
            check_refused(self, OutOfRange, end_of_delays, two, whole(0, 0), (999999, 1000000), delays)

    def test_samples_agree_with_the_definition(self):
        samples = Samples(66)
        kinds = {}
        for work in samples.works(150, 5):
            least = least_period(work)
            for more in (Fraction(0), Fraction(0), Fraction(1, 2), Fraction(7)):
                period = pair((value_of(least) if least is not None else Fraction(0)) + more)
                moments = plan(work, period)
                delays = [pair(Fraction(samples.number(5) * samples.number(4), 2)) for _ in work]
                expected = slow_end(work, moments, period, delays)
                self.check(expected, work, moments, period, delays)
                key = expected if expected[0] == "over" else ("forever", len(expected[1]))
                kinds[key] = kinds.get(key, 0) + 1
        self.assertGreater(len([kind for kind in kinds if kind[0] == "over"]), 6, kinds)
        self.assertGreater(len([kind for kind in kinds if kind[0] == "forever"]), 2, kinds)

    def test_delays_that_are_felt_for_ever_do_not_end(self):
        samples = Samples(67)
        for work in samples.works(60, 5):
            period = least_period(work)
            if period is not None:
                moments = plan(work, period)
                delays = [Fraction(samples.number(7)) for _ in work]
                kind, told = end_of_delays(work, moments, period, [pair(delay) for delay in delays])
                slacks = slow_slacks(work, moments, period)
                for _ in range(told if kind == "over" else 300):
                    self.assertTrue(any(delays))
                    delays = delays_after(slacks, delays)
                self.assertIs(any(delays), kind == "forever")

    def test_delays_are_those_of_the_events(self):
        # Point 22 tells the delays of a run that is not before its timetable.
        samples = Samples(68)
        for work in samples.works(30, 4):
            period = (12, 1)
            moments = [value_of(moment) for moment in plan(work, period)]
            delays = [Fraction(samples.number(9)) for _ in work]
            kind, told = end_of_delays(work, [pair(one) for one in moments], period, [pair(one) for one in delays])
            happened = [moment + delay for moment, delay in zip(moments, delays)]
            k = 0
            while happened != [moment + 12 * k for moment in moments]:
                k += 1
                happened = [
                    max([moments[i] + 12 * k] + [value_of(time) + happened[j] for j, time in enumerate(work[i])
                                                 if time is not None])
                    for i in range(len(work))
                ]
            self.assertEqual((kind, told), ("over", k))


class MeansOfTightCircuits(unittest.TestCase):
    def test_they_are_the_period(self):
        samples = Samples(69)
        found = 0
        for work in samples.works(60, 5):
            period = least_period(work)
            if period is not None:
                kind, circuit = end_of_delays(work, plan(work, period), period, [(1, 1) for _ in work])
                self.assertEqual(kind, "forever")
                self.assertEqual(pair(slow_mean(work, circuit)), period)
                found += 1
        self.assertGreater(found, 30)


class Interface(unittest.TestCase):
    def test_names_and_arguments(self):
        expected = {
            "holds": ["work", "moments", "period"], "least_period": ["work"], "plan": ["work", "period"],
            "end_of_delays": ["work", "moments", "period", "delays"],
        }
        for name, arguments in expected.items():
            function = getattr(timetables, name)
            self.assertEqual(list(inspect.signature(function).parameters), arguments, name)
            self.assertEqual(function.__module__, "latelaw.timetables")


if __name__ == "__main__":
    unittest.main()
