"""Points 17 to 19: candidates, least solutions and stars."""

import copy
import inspect
import unittest
from fractions import Fraction

from latelaw import equations
from latelaw.equations import candidate, least_solution, solution, star
from latelaw.errors import NoRate
from latelaw.moments import at_most, is_less, later_vector, latest
from latelaw.works import idle, next_round, power
from tests.helpers import Samples, all_circuits, beside, check_call, check_plain, check_refused, pair, ring
from tests.helpers import short_walks, slow_mean, slow_time, value_of, whole


def slow_candidate(work, vector):
    found = []
    for j in range(len(work)):
        rows = [i for i in range(len(work)) if work[i][j] is not None]
        if any(vector[i] is None for i in rows):
            found.append(None)
        else:
            found.append(pair(min((value_of(vector[i]) - value_of(work[i][j]) for i in rows), default=Fraction(0))))
    return found


def slow_star(work):
    """The greatest times of short walks, at [to][from]."""
    found = [[None] * len(work) for _ in work]
    for walk in short_walks(work):
        time, best = slow_time(work, walk), found[walk[-1]][walk[0]]
        if best is None or time > best:
            found[walk[-1]][walk[0]] = time
    return [[pair(time) for time in row] for row in found]


def slow_least_solution(work, vector):
    """The least solution from all short walks and circuits, None if there is none."""
    reached = {walk[-1] for walk in short_walks(work) if vector[walk[0]] is not None}
    if any(circuit[0] in reached and slow_mean(work, circuit) > 0 for circuit in all_circuits(work)):
        return None
    found = [None] * len(work)
    for walk in short_walks(work):
        if vector[walk[0]] is not None:
            moment = value_of(vector[walk[0]]) + slow_time(work, walk)
            if found[walk[-1]] is None or moment > found[walk[-1]]:
                found[walk[-1]] = moment
    return [pair(moment) for moment in found]


def lowered(work, moment):
    """The work with all times lowered by one moment."""
    return [[None if time is None else pair(value_of(time) - value_of(moment)) for time in row] for row in work]


class Candidates(unittest.TestCase):
    # Nobody waits for event 1.
    WORK = [whole(2, None, 5), whole(None, None, None), [None, None, (1, 2)]]

    def test_by_hand(self):
        cases = [
            (whole(10, 0, 3), [(8, 1), (0, 1), (5, 2)]),
            (whole(7, 100, 3), [(5, 1), (0, 1), (2, 1)]),
            (whole(0, None, 0), whole(-2, 0, -5)),
            (whole(None, 0, 3), whole(None, 0, None)),
            (whole(10, 0, None), whole(8, 0, None)),
            (whole(None, None, None), whole(None, 0, None)),
        ]
        for vector, expected in cases:
            self.assertEqual(check_call(self, candidate, self.WORK, vector), expected, vector)

    def test_empty_columns(self):
        for size in (1, 2, 12):
            nothing = [[None] * size for _ in range(size)]
            for vector in (whole(*range(size)), [None] * size):
                self.assertEqual(check_call(self, candidate, nothing, vector), [(0, 1)] * size)
        self.assertEqual(candidate([[None]], whole(5)), whole(0))
        self.assertEqual(candidate([whole(None, 1), whole(None, 1)], whole(4, 3)), whole(0, 2))

    def test_none_counts_only_where_there_is_a_time(self):
        work = [whole(1, None), whole(None, 2)]
        self.assertEqual(candidate(work, whole(None, 7)), whole(None, 5))
        self.assertEqual(candidate(work, whole(7, None)), whole(6, None))

    def test_samples_agree(self):
        samples = Samples(50)
        for work in samples.works(80, 5) + [samples.work(12, gaps) for gaps in (0, 5, 9)]:
            for gaps in (0, 3):
                vector = samples.vector(len(work), gaps)
                found = check_call(self, candidate, work, vector)
                self.assertEqual(found, slow_candidate(work, vector))
                for moment in found:
                    check_plain(self, moment)

    def test_next_rounds_that_are_at_most_the_vector(self):
        samples = Samples(51)
        answers = {True: 0, False: 0}
        for work in samples.works(80, 3):
            size = len(work)
            columns = [j for j in range(size) if any(row[j] is not None for row in work)]
            for k in range(20):
                vector = samples.vector(size, k % 3)
                found = candidate(work, vector)
                tried = samples.vector(size, 3)
                for j in range(size):
                    if samples.number(2) == 0:
                        tried[j] = found[j]
                expected = not any(is_less(found[j], tried[j]) for j in columns)
                self.assertIs(at_most(next_round(work, tried), vector), expected)
                answers[expected] += 1
        self.assertGreater(min(answers.values()), 300)


class Solutions(unittest.TestCase):
    def check(self, work, vector, expected):
        self.assertEqual(check_call(self, solution, work, vector), expected)

    def test_by_hand(self):
        work = [whole(2, 5), whole(1, None)]
        # The greatest event 0 is 3, and then event 1 may be at most 1.
        self.check(work, whole(6, 4), whole(3, 1))
        self.check(work, whole(5, 4), whole(3, 0))
        self.check(work, whole(4, 4), None)
        self.check(work, whole(100, 4), whole(3, 95))
        self.check(work, whole(None, None), whole(None, None))
        self.check(work, whole(3, None), whole(None, -2))
        self.check(work, whole(None, 3), None)

    def test_row_without_a_moment(self):
        work = [whole(None, None), whole(1, 2)]
        self.check(work, whole(None, 5), whole(4, 3))
        self.check(work, whole(5, 5), None)
        self.check(work, whole(None, None), whole(None, None))
        self.check([[None]], whole(None), whole(0))
        self.check([[None]], whole(0), None)

    def test_empty_column(self):
        work = [whole(1, None), whole(2, None)]
        self.check(work, whole(4, 5), whole(3, 0))
        self.check(work, whole(4, 6), None)
        self.check(work, whole(None, None), whole(None, 0))

    def test_one_event(self):
        self.check([[(1, 2)]], [(1, 3)], [(-1, 6)])
        self.check([[(-1, 2)]], [None], [None])

    def test_next_rounds_have_a_solution(self):
        samples = Samples(52)
        for work in samples.works(100, 5) + [samples.work(12, 6)]:
            for gaps in (0, 4):
                start = samples.vector(len(work), gaps)
                vector = next_round(work, start)
                found = check_call(self, solution, work, vector)
                self.assertEqual(found, candidate(work, vector))
                self.assertEqual(next_round(work, found), vector)
                for j, moment in enumerate(start):
                    if any(row[j] is not None for row in work):
                        self.assertFalse(is_less(found[j], moment))

    def test_other_vectors(self):
        samples = Samples(53)
        answers = {True: 0, False: 0}
        for work in samples.works(120, 4):
            vector = samples.vector(len(work), samples.number(4))
            found = check_call(self, solution, work, vector)
            tried = slow_candidate(work, vector)
            expected = tried if next_round(work, tried) == vector else None
            self.assertEqual(found, expected)
            answers[found is None] += 1
        self.assertGreater(min(answers.values()), 20)

    def test_no_solution_if_two_events_go_apart_too_far(self):
        # Both events wait for event 0 alone, so their distance is always 1.
        work = [whole(0, None), whole(1, None)]
        for distance in range(-4, 5):
            found = solution(work, whole(7, 7 + distance))
            self.assertEqual(found, whole(7, 0) if distance == 1 else None)


class LeastSolutions(unittest.TestCase):
    def check(self, work, vector, expected):
        self.assertEqual(check_call(self, least_solution, work, vector), expected)
        self.assertEqual(later_vector(next_round(work, expected), vector), expected)
        for moment in expected:
            check_plain(self, moment)

    def test_without_a_circuit(self):
        chain = [whole(None, None, None), whole(2, None, None), whole(1, 3, None)]
        self.check(chain, whole(0, None, None), whole(0, 2, 5))
        self.check(chain, whole(0, 10, None), whole(0, 10, 13))
        self.check(chain, whole(None, 1, 100), whole(None, 1, 100))
        self.check(chain, whole(None, None, -1), whole(None, None, -1))
        self.check([[None]], whole(3), whole(3))

    def test_mean_below_0(self):
        self.check([[(-1, 2)]], [(5, 3)], [(5, 3)])
        self.check([whole(None, -3), whole(2, None)], whole(0, None), whole(0, 2))
        self.check([whole(None, -3), whole(2, None)], whole(None, 0), whole(-3, 0))
        self.check([whole(None, -3), whole(2, None)], whole(0, 9), whole(6, 9))

    def test_mean_of_exactly_0(self):
        self.check([whole(0)], whole(3), whole(3))
        work = [whole(None, -2), whole(2, None)]
        self.check(work, whole(0, None), whole(0, 2))
        self.check(work, whole(0, 5), whole(3, 5))
        # There are other solutions then, and all are greater.
        for more in range(1, 4):
            other = whole(3 + more, 5 + more)
            self.assertEqual(later_vector(next_round(work, other), whole(0, 5)), other)
        third = ring(3, (1, 3))
        third[0][2] = (-2, 3)
        self.check(third, whole(0, None, None), [(0, 1), (1, 3), (2, 3)])

    def test_mean_above_0_is_refused_if_a_start_reaches_it(self):
        for vector in (whole(0), whole(-100)):
            check_refused(self, NoRate, least_solution, [[(1, 1000000)]], vector)
        # Event 0 leads to the ring of 1 and 2, and this leads to event 3.
        work = [whole(None, None, None, None), whole(0, None, 3, None), whole(None, -2, None, None),
                whole(None, None, 1, None)]
        for vector in (whole(0, None, None, None), whole(None, 0, None, None), whole(None, None, -9, None),
                       whole(0, 0, 0, 0), whole(None, None, 0, 5), whole(-1000000, None, None, 9)):
            check_refused(self, NoRate, least_solution, work, vector)
        self.check(work, whole(None, None, None, 4), whole(None, None, None, 4))
        work[2][1] = (-3, 1)
        self.check(work, whole(0, None, None, None), whole(0, 0, -3, -2))

    def test_a_long_ring_just_above_and_at_0(self):
        for size in (2, 7, 12):
            work = ring(size, (0, 1))
            for vector in (whole(*range(size)), whole(5, *[None] * (size - 1)), whole(*[None] * (size - 1), 5)):
                self.check(work, vector, [(max(m[0] for m in vector if m is not None), 1)] * size)
                for moment, good in (((1, 1000000), False), ((-1, 1000000), True)):
                    changed = copy.deepcopy(work)
                    changed[size // 2][size // 2 - 1] = moment
                    if good:
                        self.assertEqual(least_solution(changed, vector), slow_least_solution(changed, vector))
                    else:
                        check_refused(self, NoRate, least_solution, changed, vector)

    def test_none_alone(self):
        for work in (ring(3, (1, 1)), ring(3, (-1, 1)), idle(3), [[None] * 3 for _ in range(3)]):
            vector = [None] * 3
            self.check(work, vector, [None, None, None])
            self.assertIsNot(least_solution(work, vector), vector)
        self.check([whole(7)], [None], [None])

    def test_samples_agree_with_all_walks_and_circuits(self):
        samples = Samples(54)
        answers = {True: 0, False: 0}
        for k, work in enumerate(samples.works(240, 4)):
            work = lowered(work, whole(0, 4, 10)[k % 3])
            for gaps in (2, 7):
                vector = samples.vector(len(work), gaps)
                expected = slow_least_solution(work, vector)
                answers[expected is None] += 1
                if expected is None:
                    check_refused(self, NoRate, least_solution, work, vector)
                else:
                    self.check(work, vector, expected)
        self.assertGreater(min(answers.values()), 50)


class Stars(unittest.TestCase):
    def test_one_event(self):
        for moment in (None, (0, 1), (-1, 1), (-1, 1000000)):
            self.assertEqual(check_call(self, star, [[moment]]), [whole(0)])
        for moment in ((1, 1), (1, 1000000)):
            check_refused(self, NoRate, star, [[moment]])

    def test_by_hand(self):
        chain = [whole(None, None, None), whole(2, None, None), whole(1, 3, None)]
        self.assertEqual(check_call(self, star, chain), [whole(0, None, None), whole(2, 0, None), whole(5, 3, 0)])
        work = [whole(-1, -2), [(3, 2), None]]
        self.assertEqual(check_call(self, star, work), [whole(0, -2), [(3, 2), (0, 1)]])
        work = [whole(None, -2), whole(2, None)]
        self.assertEqual(check_call(self, star, work), [whole(0, -2), whole(2, 0)])

    def test_no_waits(self):
        for size in (1, 2, 12):
            self.assertEqual(check_call(self, star, [[None] * size for _ in range(size)]), idle(size))
            self.assertEqual(check_call(self, star, idle(size)), idle(size))

    def test_long_walks_count(self):
        for size in (2, 3, 5, 8, 9, 12):
            chain = ring(size, (1, 1))
            chain[0][size - 1] = None
            expected = [[(i - j, 1) if i >= j else None for j in range(size)] for i in range(size)]
            self.assertEqual(check_call(self, star, chain), expected)
            chain[0][size - 1] = (1 - size, 1)
            expected = [whole(*[i - j for j in range(size)]) for i in range(size)]
            self.assertEqual(check_call(self, star, chain), expected)

    def test_a_mean_above_0_is_refused_in_any_case(self):
        for size in (2, 3, 8, 12):
            work = ring(size, (0, 1))
            work[0][size - 1] = (1, 1000000)
            check_refused(self, NoRate, star, work)
            check_refused(self, NoRate, star, beside([[None]], work))
            work[0][size - 1] = (-1, 1000000)
            self.assertEqual(star(work), slow_star(work))
        check_refused(self, NoRate, star, beside([whole(-1)], [whole(1)], [whole(-1)]))

    def test_least_solution_without_a_star(self):
        work = [whole(1, None), whole(None, -1)]
        check_refused(self, NoRate, star, work)
        self.assertEqual(least_solution(work, whole(None, 5)), whole(None, 5))
        check_refused(self, NoRate, least_solution, work, whole(5, None))

    def test_samples_agree_with_all_walks_and_circuits(self):
        samples = Samples(55)
        answers = {True: 0, False: 0}
        for k, work in enumerate(samples.works(160, 4)):
            work = lowered(work, whole(0, 2, 5)[k % 3])
            above = any(slow_mean(work, circuit) > 0 for circuit in all_circuits(work))
            answers[above] += 1
            if above:
                check_refused(self, NoRate, star, work)
                continue
            found = check_call(self, star, work)
            self.assertEqual(found, slow_star(work))
            for gaps in (0, 3, 10):
                vector = samples.vector(len(work), gaps)
                self.assertEqual(least_solution(work, vector), next_round(found, vector))
            for row in found:
                for moment in row:
                    check_plain(self, moment)
        self.assertGreater(min(answers.values()), 30)

    def test_12_events(self):
        samples = Samples(56)
        for gaps in (0, 4, 8):
            work = lowered(samples.work(12, gaps), (10, 1))
            powers = [power(work, k) for k in range(12)]
            expected = [[latest([one[i][j] for one in powers]) for j in range(12)] for i in range(12)]
            self.assertEqual(check_call(self, star, work), expected)


class Interface(unittest.TestCase):
    def test_names_and_arguments(self):
        expected = {
            "candidate": ["work", "vector"], "solution": ["work", "vector"], "least_solution": ["work", "vector"],
            "star": ["work"],
        }
        for name, arguments in expected.items():
            function = getattr(equations, name)
            self.assertEqual(list(inspect.signature(function).parameters), arguments, name)
            self.assertEqual(function.__module__, "latelaw.equations")


if __name__ == "__main__":
    unittest.main()
