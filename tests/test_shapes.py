"""Points 26 to 28: shapes, generators and parts."""

import inspect
import unittest
from fractions import Fraction

from latelaw import shapes
from latelaw.errors import NoRate, OutOfRange
from latelaw.moments import at_most, is_less, plus
from latelaw.shapes import critical_groups, generators, is_shape, latest_of, one_rate, parts_of, reaches
from latelaw.works import next_round
from tests.helpers import Samples, all_circuits, beside, check_call, check_plain, check_refused, pair, ring
from tests.helpers import short_walks, slow_mean, slow_rates, slow_time, value_of, whole

LITTLE = Fraction(1, 10 ** 20)
# Events 0 and 1 wait for each other, events 2 and 3 for themselves, and event 4 comes after all.
SEVERAL = [
    [None, (1, 1), None, (-9, 1), None],
    [(3, 1), None, (-4, 1), None, None],
    [None, (-6, 1), (2, 1), None, None],
    [(-7, 1), None, (-1, 1), (2, 1), None],
    [(5, 1), None, (1, 2), (0, 1), (1, 1)],
]
# The work that has two different rates, and the one that has no rate at one event.
REFUSED = [
    [whole(1, None), whole(None, 2)],
    [whole(None, None), whole(2, 2)],
    [whole(None)],
    [whole(None, None), whole(1, None)],
    [whole(1, None), whole(5, 2)],
]


def slow_one_rate(work):
    rates = set(slow_rates(work))
    return rates.pop() if len(rates) == 1 else None


def slow_reaches(work):
    """The reaches by point 26, from all short walks."""
    rate = slow_one_rate(work)
    found = [[None] * len(work) for _ in work]
    for walk in short_walks(work):
        excess, best = slow_time(work, walk) - (len(walk) - 1) * rate, found[walk[-1]][walk[0]]
        if best is None or excess > best:
            found[walk[-1]][walk[0]] = excess
    return [[pair(excess) for excess in row] for row in found]


def slow_groups(work):
    """The groups by point 26, from all circuits and short walks."""
    rate = slow_one_rate(work)
    critical = sorted({
        event for circuit in all_circuits(work) if slow_mean(work, circuit) == rate for event in circuit
    })
    reach = slow_reaches(work)
    groups = []
    for event in critical:
        group = [other for other in critical if plus(reach[event][other], reach[other][event]) == (0, 1)]
        if group not in groups:
            groups.append(group)
    return groups


def slow_is_shape(work, vector):
    if None in vector:
        return False
    following = next_round(work, vector)
    if None in following:
        return False
    return len({value_of(after) - value_of(before) for before, after in zip(vector, following)}) == 1


def slow_latest(vectors, shifts):
    found = []
    for moments in zip(*vectors):
        sums = [value_of(moment) + value_of(shift) for moment, shift in zip(moments, shifts)
                if moment is not None and shift is not None]
        found.append(pair(max(sums, default=None)))
    return found


def one_rate_works(samples, many, most):
    """Works of which all events have the same rate, with several groups among them."""
    found = []
    while len(found) < many:
        size = 1 + samples.number(most)
        # Few different times give many circuits with the same mean.
        work = [[(samples.number(3) - 2, 1) if samples.number(10) < 5 else None for _ in range(size)]
                for _ in range(size)]
        if samples.number(2) == 0:
            # Events that wait for themselves have groups of their own.
            for event in range(size):
                work[event][event] = (samples.number(2), 1)
        if slow_one_rate(work) is not None:
            found.append(work)
    return found


class OneRates(unittest.TestCase):
    def test_by_hand(self):
        cases = [
            ([whole(4)], (4, 1)), ([whole(-4)], (-4, 1)), ([whole(0)], (0, 1)), ([whole(2, 5), whole(3, None)], (4, 1)),
            (ring(7, (1, 3)), (1, 3)), (beside(ring(2, (1, 2)), ring(5, (1, 2))), (1, 2)), (SEVERAL, (2, 1)),
            ([whole(1, None), whole(5, 1)], (1, 1)), ([whole(1, None), whole(5, None)], (1, 1)),
            ([whole(1, None), whole(5, 0)], (1, 1)), ([whole(None, 3), whole(-2, None)], (1, 2)),
        ]
        for work, expected in cases:
            self.assertEqual(check_call(self, one_rate, work), expected, work)

    def test_different_rates_or_none(self):
        for work in REFUSED:
            self.assertIsNone(check_call(self, one_rate, work), work)
        self.assertIsNone(one_rate(beside([[(1, 2)]], [[(1, 3)]])))
        self.assertIsNone(one_rate(beside(ring(3, (1, 1)), [whole(None)])))
        self.assertIsNone(one_rate([[None] * 12 for _ in range(12)]))

    def test_samples_agree_with_all_circuits(self):
        samples = Samples(70)
        for work in samples.works(100, 5) + one_rate_works(samples, 30, 5):
            self.assertEqual(check_call(self, one_rate, work), pair(slow_one_rate(work)))


class Reaches(unittest.TestCase):
    def test_by_hand(self):
        self.assertEqual(check_call(self, reaches, [whole(5)]), [whole(0)])
        self.assertEqual(check_call(self, reaches, [whole(2, 5), whole(3, None)]), [whole(0, 1), whole(-1, 0)])
        self.assertEqual(check_call(self, reaches, [whole(1, None), whole(5, 1)]), [whole(0, None), whole(4, 0)])
        self.assertEqual(check_call(self, reaches, [whole(1, None), whole(5, None)]), [whole(0, None), whole(4, 0)])
        work = beside([[(1, 2)]], ring(2, (1, 2)))
        self.assertEqual(check_call(self, reaches, work), [whole(0, None, None), whole(None, 0, 0), whole(None, 0, 0)])

    def test_walks_of_all_lengths(self):
        for size in (3, 12):
            work = ring(size, (3, 1))
            work[0] = whole(1, *[None] * (size - 1))
            self.assertEqual([row[0] for row in reaches(work)], whole(*[2 * event for event in range(size)]))

    def test_samples_agree_with_all_short_walks(self):
        samples = Samples(71)
        for work in one_rate_works(samples, 60, 5) + [samples.work(4, 0) for _ in range(10)]:
            found = check_call(self, reaches, work)
            self.assertEqual(found, slow_reaches(work), work)
            for row in found:
                for moment in row:
                    check_plain(self, moment)

    def test_refused(self):
        for work in REFUSED:
            check_refused(self, NoRate, reaches, work)


class CriticalGroups(unittest.TestCase):
    def test_by_hand(self):
        cases = [
            ([whole(5)], [[0]]),
            ([whole(2, 5), whole(3, None)], [[0, 1]]),
            ([whole(4, 5), whole(3, None)], [[0, 1]]),
            ([whole(5, 5), whole(3, None)], [[0]]),
            ([whole(4, 4), whole(3, 4)], [[0], [1]]),
            ([whole(4, 4), whole(4, 4)], [[0, 1]]),
            ([whole(1, None), whole(5, 1)], [[0], [1]]),
            ([whole(1, None), whole(5, 0)], [[0]]),
            (SEVERAL, [[0, 1], [2], [3]]),
            (beside(ring(3, (1, 1)), ring(2, (1, 1))), [[0, 1, 2], [3, 4]]),
            (ring(12, (1, 5)), [list(range(12))]),
        ]
        for work, expected in cases:
            self.assertEqual(check_call(self, critical_groups, work), expected, work)

    def test_groups_whose_events_are_mixed(self):
        # Events 0 and 2 wait for each other, and events 1 and 3. Event 4 waits for all, and for itself too slowly.
        work = [
            whole(None, None, 2, None, None), whole(None, None, None, 3, None), whole(0, None, None, None, None),
            whole(None, -1, None, None, None), whole(9, 9, 9, 9, 0),
        ]
        self.assertEqual(check_call(self, critical_groups, work), [[0, 2], [1, 3]])

    def test_events_that_belong_together_by_way_of_one_that_is_not_beside_them(self):
        # One circuit of three events and one of two have event 1 in common.
        work = [
            whole(None, None, 1, None), whole(1, None, None, 1), whole(None, 1, None, None), whole(None, 1, None, None),
        ]
        self.assertEqual(check_call(self, critical_groups, work), [[0, 1, 2, 3]])
        work[3][1] = (0, 1)
        self.assertEqual(check_call(self, critical_groups, work), [[0, 1, 2]])

    def test_samples_agree_with_the_definition(self):
        samples = Samples(72)
        counts = {}
        for work in one_rate_works(samples, 120, 5):
            found = check_call(self, critical_groups, work)
            self.assertEqual(found, slow_groups(work), work)
            in_groups = sum(len(group) for group in found)
            key = (min(len(found), 3), in_groups < len(work))
            counts[key] = counts.get(key, 0) + 1
        self.assertEqual(len(counts), 6, counts)

    def test_refused(self):
        for work in REFUSED:
            check_refused(self, NoRate, critical_groups, work)


class Generators(unittest.TestCase):
    def test_by_hand(self):
        self.assertEqual(check_call(self, generators, [whole(5)]), [whole(0)])
        self.assertEqual(check_call(self, generators, [whole(2, 5), whole(3, None)]), [whole(0, -1)])
        self.assertEqual(check_call(self, generators, [whole(1, None), whole(5, 1)]), [whole(0, 4), whole(None, 0)])
        self.assertEqual(check_call(self, generators, [whole(1, None), whole(5, 0)]), [whole(0, 4)])
        rings = beside(ring(2, (1, 1)), [whole(1)])
        self.assertEqual(check_call(self, generators, rings), [whole(0, 0, None), whole(None, None, 0)])

    def test_they_are_the_reaches_of_the_least_events(self):
        reach = slow_reaches(SEVERAL)
        self.assertEqual(check_call(self, generators, SEVERAL), [[row[j] for row in reach] for j in (0, 2, 3)])
        samples = Samples(73)
        for work in one_rate_works(samples, 60, 5):
            reach = slow_reaches(work)
            expected = [[row[group[0]] for row in reach] for group in slow_groups(work)]
            self.assertEqual(check_call(self, generators, work), expected)

    def test_their_next_rounds_are_shifted_by_the_rate(self):
        samples = Samples(74)
        for work in one_rate_works(samples, 60, 6) + [samples.work(5, 0) for _ in range(10)] + [SEVERAL]:
            rate = one_rate(work)
            for generator in generators(work):
                self.assertEqual(next_round(work, generator), [plus(moment, rate) for moment in generator])

    def test_none_of_them_is_the_latest_of_the_others(self):
        samples = Samples(75)
        several = 0
        for work in one_rate_works(samples, 80, 5) + [SEVERAL]:
            found = generators(work)
            for at, generator in enumerate(found):
                others = found[:at] + found[at + 1:]
                if others:
                    shifts = [self.greatest_shift(other, generator) for other in others]
                    self.assertNotEqual(latest_of(others, shifts), generator)
                    several += 1
        self.assertGreater(several, 40)

    def greatest_shift(self, other, vector):
        """The greatest moment by which the other vector can be shifted to be at most the vector."""
        if any(moment is not None and bound is None for moment, bound in zip(other, vector)):
            return None
        return pair(min(value_of(bound) - value_of(moment) for moment, bound in zip(other, vector)
                        if moment is not None))

    def test_a_latest_of_shifted_ones_is_a_shape_exactly_if_it_is_finite(self):
        samples = Samples(76)
        answers = {True: 0, False: 0}
        for work in one_rate_works(samples, 60, 5) + [SEVERAL]:
            found = generators(work)
            for gaps in (0, 4, 8):
                vector = latest_of(found, samples.vector(len(found), gaps))
                self.assertIs(is_shape(work, vector), None not in vector)
                answers[None not in vector] += 1
        self.assertGreater(min(answers.values()), 20, answers)

    def test_refused(self):
        for work in REFUSED:
            check_refused(self, NoRate, generators, work)


class Shapes(unittest.TestCase):
    WORK = [whole(2, 5), whole(3, None)]

    def test_by_hand(self):
        cases = [
            (self.WORK, whole(0, -1), True), (self.WORK, whole(8, 7), True), (self.WORK, whole(0, 0), False),
            (self.WORK, [(1, 2), (-1, 2)], True), (self.WORK, [(1, 2), (-1, 3)], False),
            (self.WORK, whole(-1, 0), False),
            ([whole(5)], whole(-7), True), ([whole(None)], whole(0), False),
            ([whole(1, None), whole(5, 1)], whole(0, 4), True),
            ([whole(1, None), whole(5, 1)], whole(0, 3), False), ([whole(1, None), whole(5, 1)], whole(0, 9), True),
            ([whole(1, None), whole(5, 0)], whole(0, 9), False),
            ([whole(1, None), whole(None, 2)], whole(0, 0), False),
            ([whole(None, None), whole(2, 2)], whole(0, 0), False),
            ([whole(None, None), whole(None, None)], whole(0, 0), False),
        ]
        for work, vector, expected in cases:
            self.assertIs(check_call(self, is_shape, work, vector), expected, (work, vector))

    def test_vectors_with_none(self):
        for vector in (whole(None, 0), whole(0, None), whole(None, None)):
            self.assertIs(check_call(self, is_shape, self.WORK, vector), False)
            self.assertIs(check_call(self, is_shape, beside([whole(1)], [whole(1)]), vector), False)
            check_refused(self, NoRate, parts_of, self.WORK, vector)
        # These are the generators of their works.
        self.assertIs(is_shape([whole(1, None), whole(5, 1)], whole(None, 0)), False)
        self.assertIs(is_shape([whole(None)], whole(None)), False)

    def test_other_lengths_are_refused(self):
        for work in (self.WORK, [whole(None, None), whole(1, None)]):
            for vector in ([], whole(0), whole(0, -1, 0), whole(None), whole(0, 0, None), whole(*[0] * 12)):
                check_refused(self, OutOfRange, is_shape, work, vector)
                check_refused(self, OutOfRange, parts_of, work, vector)

    def test_samples_agree_with_the_definition(self):
        samples = Samples(77)
        answers = {True: 0, False: 0}
        for work in one_rate_works(samples, 60, 4) + samples.works(60, 4):
            vectors = [whole(*[samples.number(4) - 2 for _ in work]) for _ in range(4)]
            vectors.append(samples.vector(len(work), 3))
            if one_rate(work) is not None:
                found = generators(work)
                vectors.append(latest_of(found, samples.vector(len(found), 0)))
            for vector in vectors:
                expected = slow_is_shape(work, vector)
                self.assertIs(check_call(self, is_shape, work, vector), expected, (work, vector))
                answers[expected] += 1
        self.assertGreater(min(answers.values()), 80, answers)


class Latest(unittest.TestCase):
    def test_by_hand(self):
        cases = [
            ([whole(0, 4)], whole(0), whole(0, 4)),
            ([whole(0, 4)], [(1, 2)], [(1, 2), (9, 2)]),
            ([whole(0, 4)], [None], whole(None, None)),
            ([whole(0, 4), whole(None, 0)], whole(1, 6), whole(1, 6)),
            ([whole(0, 4), whole(None, 0)], whole(1, 2), whole(1, 5)),
            ([whole(0, 4), whole(None, 0)], whole(None, 2), whole(None, 2)),
            ([whole(0, 4), whole(None, 0)], whole(-3, None), whole(-3, 1)),
            ([whole(0, 4), whole(None, 0)], whole(None, None), whole(None, None)),
            ([whole(1), whole(2), whole(3)], whole(5, 4, 2), whole(6)),
            ([whole(None, None)], whole(7), whole(None, None)),
        ]
        for vectors, shifts, expected in cases:
            self.assertEqual(check_call(self, latest_of, vectors, shifts), expected, (vectors, shifts))

    def test_samples_agree_with_the_definition(self):
        samples = Samples(78)
        for k in range(200):
            vectors = [samples.vector(1 + k % 5, 3) for _ in range(1 + k % 4)]
            shifts = samples.vector(len(vectors), 3)
            found = check_call(self, latest_of, vectors, shifts)
            self.assertEqual(found, slow_latest(vectors, shifts))
            for moment in found:
                check_plain(self, moment)

    def test_refused_lists(self):
        cases = [
            ([], []), ([], whole(0)), ([whole(0)], []), ([whole(0)], whole(0, 0)), ([whole(0), whole(1)], whole(0)),
            ([whole(0), whole(1, 2)], whole(0, 0)), ([whole(1, 2), whole(0)], whole(0, 0)),
            ([[], whole(0)], whole(0, 0)),
            ([whole(0, 0), whole(0, 0), whole(0)], whole(0, 0, 0)), ([whole(0), whole(1, 2)], whole(None, None)),
            ([whole(0), whole(1, 2)], whole(0, None)), ([whole(1, 2), whole(0)], whole(0)),
        ]
        for vectors, shifts in cases:
            check_refused(self, OutOfRange, latest_of, vectors, shifts)


class Parts(unittest.TestCase):
    def test_by_hand(self):
        self.assertEqual(check_call(self, parts_of, [whole(2, 5), whole(3, None)], whole(8, 7)), whole(8))
        self.assertEqual(check_call(self, parts_of, [whole(1, None), whole(5, 1)], whole(0, 9)), whole(0, 9))
        self.assertEqual(check_call(self, parts_of, [whole(1, None), whole(5, 1)], whole(0, 4)), whole(0, 4))
        self.assertEqual(check_call(self, parts_of, [whole(1, None), whole(5, 0)], [(1, 2), (9, 2)]), [(1, 2)])

    def test_shapes_are_made_up_of_their_parts(self):
        samples = Samples(79)
        several = 0
        for work in one_rate_works(samples, 80, 5) + [SEVERAL]:
            found = generators(work)
            for gaps in (0, 0, 3):
                shifts = samples.vector(len(found), gaps)
                vector = latest_of(found, shifts)
                if None in vector:
                    check_refused(self, NoRate, parts_of, work, vector)
                    continue
                parts = check_call(self, parts_of, work, vector)
                self.assertEqual(parts, [vector[group[0]] for group in slow_groups(work)])
                self.assertEqual(latest_of(found, parts), vector)
                self.assertTrue(at_most(shifts, parts))
                several += len(parts) > 1
                self.check_greatest(found, parts, vector)
        self.assertGreater(several, 40)

    def check_greatest(self, found, parts, vector):
        for generator, part in zip(found, parts):
            check_plain(self, part)
            self.assertTrue(at_most(latest_of([generator], [part]), vector))
            more = pair(value_of(part) + LITTLE)
            self.assertFalse(at_most(latest_of([generator], [more]), vector))
            self.assertTrue(is_less(part, more))

    def test_every_small_shape_is_made_up_of_its_parts(self):
        samples = Samples(80)
        shapes_found = 0
        for work in one_rate_works(samples, 25, 3):
            numbers = range(-3, 4)
            vectors = [[]]
            for _ in work:
                vectors = [vector + [(number, 1)] for vector in vectors for number in numbers]
            for vector in vectors:
                if slow_is_shape(work, vector):
                    self.assertEqual(latest_of(generators(work), parts_of(work, vector)), vector)
                    shapes_found += 1
        self.assertGreater(shapes_found, 200)

    def test_what_is_no_shape_is_refused(self):
        for work, vector in (
            ([whole(2, 5), whole(3, None)], whole(0, 0)), ([whole(1, None), whole(5, 1)], whole(0, 3)),
            ([whole(1, None), whole(5, 1)], whole(None, 0)), ([whole(1, None), whole(None, 2)], whole(0, 0)),
            ([whole(None)], whole(0)), ([whole(None)], whole(None)), ([whole(None, None), whole(2, 2)], whole(0, 0)),
        ):
            check_refused(self, NoRate, parts_of, work, vector)


class Interface(unittest.TestCase):
    def test_names_and_arguments(self):
        expected = {
            "one_rate": ["work"], "reaches": ["work"], "critical_groups": ["work"], "generators": ["work"],
            "is_shape": ["work", "vector"], "latest_of": ["vectors", "shifts"], "parts_of": ["work", "vector"],
        }
        for name, arguments in expected.items():
            function = getattr(shapes, name)
            self.assertEqual(list(inspect.signature(function).parameters), arguments, name)
            self.assertEqual(function.__module__, "latelaw.shapes")


if __name__ == "__main__":
    unittest.main()
