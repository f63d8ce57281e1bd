"""Points 10 to 13: rates and rate papers."""

import copy
import inspect
import unittest
from fractions import Fraction
from itertools import permutations

from latelaw import rates as module
from latelaw.errors import OutOfRange
from latelaw.moments import fraction
from latelaw.rates import is_rate_paper, rate_of, rate_paper
from latelaw.works import idle, is_circuit, power, reached_from, round_after
from tests.helpers import Samples, all_circuits, beside, check_call, check_plain, check_refused, pair, ring
from tests.helpers import short_walks, slow_mean, slow_rates, slow_time, value_of, whole

# Events 0 and 1 wait for each other (mean 3/2), event 2 waits for event 1 and for itself (mean 2), event 3 waits
# for nobody, event 4 for event 3, and event 5 for events 0 and 4.
SIX = [
    whole(None, 1, None, None, None, None),
    whole(2, None, None, None, None, None),
    whole(None, 9, 2, None, None, None),
    whole(None, None, None, None, None, None),
    whole(None, None, None, 7, None, None),
    whole(4, None, None, None, 8, None),
]
SIX_PAPER = (
    [(3, 2), (3, 2), (2, 1), None, None, (3, 2)],
    [[0, 1, 0], [0, 1, 0], [2, 2], None, None, [0, 1, 0]],
    [(0, 1), (1, 2), (0, 1), (0, 1), (1, 1), (5, 2)],
)


def full(size, moment):
    return [[moment] * size for _ in range(size)]


def without_own_waits(work):
    return [[None if i == j else moment for j, moment in enumerate(row)] for i, row in enumerate(work)]


def renamed(work, order):
    """The work in which the event order[k] has the place k."""
    return [[work[i][j] for j in order] for i in order]


def slow_paper(work):
    """The computed rate paper, from all circuits and all walks of a length below n."""
    found = slow_rates(work)
    lengths = [[] for _ in work]
    gains = [[] for _ in work]
    reached = set()
    for walk in short_walks(work):
        end = walk[-1]
        reached.add((walk[0], end))
        lengths[end].append(len(walk) - 1)
        if found[end] is not None and all(found[event] == found[end] for event in walk):
            gains[end].append(slow_time(work, walk) - (len(walk) - 1) * found[end])
    circuits = []
    for event, rate in enumerate(found):
        best = [one for one in all_circuits(work) if (one[0], event) in reached and slow_mean(work, one) == rate]
        circuits.append(min(best, key=lambda one: (len(one), one), default=None))
    potentials = [
        pair(Fraction(max(lengths[event])) if rate is None else max(gains[event])) for event, rate in enumerate(found)
    ]
    return ([pair(rate) for rate in found], circuits, potentials)


def slow_judge(work, paper):
    """Point 11, sentence by sentence."""
    found, circuits, potentials = paper
    size = len(work)
    if [len(part) for part in paper] != [size] * 3:
        return False
    for moment in found + potentials:
        if moment is not None and (moment[1] < 1 or moment != pair(value_of(moment))):
            return False
    if None in potentials:
        return False
    for event in range(size):
        if found[event] is None:
            if circuits[event] is not None:
                return False
        else:
            circuit = circuits[event]
            if circuit not in all_circuits(work) or slow_mean(work, circuit) != value_of(found[event]):
                return False
            if not any(walk[0] in circuit and walk[-1] == event for walk in short_walks(work)):
                return False
    rate = [value_of(moment) for moment in found]
    height = [value_of(moment) for moment in potentials]
    for i in range(size):
        for j in range(size):
            if work[i][j] is None:
                continue
            if rate[j] is None and rate[i] is None and not height[j] < height[i]:
                return False
            if rate[j] is not None:
                if rate[i] is None:
                    return False
                time = value_of(work[i][j])
                if not (rate[j] < rate[i] or (rate[j] == rate[i] and time + height[j] <= rate[i] + height[i])):
                    return False
    return True


class RatePapers(unittest.TestCase):
    def check(self, work, expected):
        self.assertEqual(check_call(self, rate_paper, work), expected)
        self.assertIs(type(rate_paper(work)), tuple)
        self.assertIs(check_call(self, is_rate_paper, work, expected), True)

    def test_one_event(self):
        self.check([[None]], ([None], [None], [(0, 1)]))
        for moment in ((0, 1), (5, 1), (-5, 1), (2, 3), (-7, 2), (1, 1000000)):
            self.check([[moment]], ([moment], [[0, 0]], [(0, 1)]))

    def test_no_moment_at_all(self):
        for size in (2, 3, 12, 14):
            nothing = [None] * size
            self.check(full(size, None), (nothing, nothing[:], [(0, 1)] * size))

    def test_no_circuit(self):
        chain = [whole(None, None, None), whole(9, None, None), whole(None, -4, None)]
        self.check(chain, ([None] * 3, [None] * 3, whole(0, 1, 2)))
        # The longest walk counts, not the one with the greatest time, nor the shortest one.
        chain[2][0] = (1000, 1)
        self.check(chain, ([None] * 3, [None] * 3, whole(0, 1, 2)))

    def test_several_classes(self):
        self.check(SIX, SIX_PAPER)

    def test_rates_below_0_of_0_and_of_fractions(self):
        self.check(ring(3, (-2, 1)), (whole(-2, -2, -2), [[0, 1, 2, 0]] * 3, whole(0, 0, 0)))
        self.check([whole(None, 3), whole(-3, None)], (whole(0, 0), [[0, 1, 0]] * 2, whole(3, 0)))
        self.check([whole(None, 3), whole(4, None)], ([(7, 2)] * 2, [[0, 1, 0]] * 2, [(0, 1), (1, 2)]))
        third = [[(-1, 3), None], [(1, 2), (-1, 3)]]
        self.check(third, ([(-1, 3)] * 2, [[0, 0]] * 2, [(0, 1), (5, 6)]))

    def test_a_lower_rate_yields_to_a_greater_one(self):
        work = [whole(1, None, None), whole(0, -5, None), whole(None, 0, 7)]
        self.check(work, (whole(1, 1, 7), [[0, 0], [0, 0], [2, 2]], whole(0, 0, 0)))

    def test_a_rate_below_0_is_greater_than_none(self):
        work = [whole(-9, None, None), whole(3, None, 2), whole(None, None, None)]
        self.check(work, (whole(-9, -9, None), [[0, 0], [0, 0], None], whole(0, 12, 0)))

    def test_shortest_circuit_of_the_same_mean(self):
        # Three circuits with the mean 2: one of three events, one of two, and one of one event.
        work = [whole(None, 3, 2), whole(1, None, None), whole(None, 2, None)]
        self.check(work, (whole(2, 2, 2), [[0, 1, 0]] * 3, whole(1, 0, 0)))
        work[2][2] = (2, 1)
        self.check(work, (whole(2, 2, 2), [[2, 2]] * 3, whole(1, 0, 0)))

    def test_least_circuit_of_the_same_mean_and_length(self):
        self.check(full(3, (4, 1)), (whole(4, 4, 4), [[0, 0]] * 3, whole(0, 0, 0)))
        self.check(without_own_waits(full(4, (4, 1))), (whole(4, 4, 4, 4), [[0, 1, 0]] * 4, whole(0, 0, 0, 0)))
        # Circuits of three events that part behind event 0, or at its end.
        for circuits in ([[0, 1, 3, 0], [0, 2, 3, 0]], [[0, 2, 1, 0], [0, 3, 1, 0]], [[0, 1, 2, 0], [0, 1, 3, 0]],
                         [[0, 3, 2, 0], [1, 3, 2, 1]]):
            work = [[None] * 4 for _ in range(4)]
            for circuit in circuits:
                for j, i in zip(circuit, circuit[1:]):
                    work[i][j] = (1, 1)
            self.check(work, (whole(1, 1, 1, 1), [circuits[0]] * 4, whole(0, 0, 0, 0)))

    def test_a_longer_way_with_a_less_beginning_does_not_win(self):
        # 0-1-2-0 is less than 0-2-0 as a list, and 1-2-1 is as short as it but greater.
        work = without_own_waits(full(3, (1, 1)))
        work[0][1] = None
        self.check(work, (whole(1, 1, 1), [[0, 2, 0]] * 3, whole(0, 0, 0)))

    def test_circuits_of_several_lengths_through_the_same_events(self):
        # The circuits are 0-2-0, 0-1-2-0, 0-2-3-0 and 0-1-2-3-0.
        work = [whole(None, None, 5, 5), whole(5, None, None, None), whole(5, 5, None, None),
                whole(None, None, 5, None)]
        self.assertEqual(rate_paper(work)[1], [[0, 2, 0]] * 4)
        work[0][2] = None
        self.assertEqual(rate_paper(work)[1], [[0, 2, 3, 0]] * 4)
        work[2][0] = None
        self.assertEqual(rate_paper(work)[1], [[0, 1, 2, 3, 0]] * 4)

    def test_ties_between_classes(self):
        # Two rings of one rate; the shorter one counts where it reaches, also if its events are greater.
        work = beside(ring(3, (1, 1)), ring(2, (1, 1)), [whole(None)], [whole(None)], [whole(None)])
        work[5][0] = work[6][3] = work[7][1] = work[7][4] = (0, 1)
        three, two = [0, 1, 2, 0], [3, 4, 3]
        expected = [three, three, three, two, two, three, two, two]
        self.check(work, (whole(*[1] * 8), expected, whole(*[0] * 8)))
        # Of two rings of the same rate and length the one with the least events counts.
        work = beside(ring(2, (1, 2)), ring(2, (1, 2)), [whole(None)])
        work[4][3] = work[4][0] = (3, 2)
        circuits = [[0, 1, 0], [0, 1, 0], [2, 3, 2], [2, 3, 2], [0, 1, 0]]
        self.check(work, ([(1, 2)] * 5, circuits, whole(0, 0, 0, 0, 1)))

    def test_a_circuit_of_the_same_mean_behind_the_event_does_not_count(self):
        work = beside(ring(2, (3, 1)), [whole(3)])
        work[2][0] = (3, 1)
        self.check(work, (whole(3, 3, 3), [[0, 1, 0], [0, 1, 0], [2, 2]], whole(0, 0, 0)))

    def test_potentials_come_from_events_of_the_same_rate_only(self):
        work = [whole(0, None, None, None), whole(100, 2, None, None), whole(None, -9, None, None),
                whole(None, None, 50, None)]
        # Event 2 has the rate 2 and only a bad way to it, so the walk of length 0 counts.
        self.check(work, (whole(0, 2, 2, 2), [[0, 0], [1, 1], [1, 1], [1, 1]], whole(0, 0, 0, 48)))

    def test_potentials_of_events_with_a_rate_leave_out_events_without_one(self):
        work = [whole(None, None), whole(100, 1)]
        self.check(work, ([None, (1, 1)], [None, [1, 1]], whole(0, 0)))

    def test_potentials_may_need_long_walks(self):
        work = ring(12, (1, 1))
        work[0][11] = (-11, 1)
        self.check(work, (whole(*[0] * 12), [list(range(12)) + [0]] * 12, whole(*range(12))))
        work[1][0] = None
        self.assertEqual(rate_paper(work)[0], [None] * 12)
        self.assertEqual(rate_paper(work)[2], whole(11, *range(11)))

    def test_small_works_agree_with_all_circuits_and_walks(self):
        samples = Samples(20)
        works = samples.works(60, 4) + [samples.work(5, gaps) for gaps in (0, 3, 6, 7, 8, 8)]
        for work in works:
            found = check_call(self, rate_paper, work)
            self.assertEqual(found, slow_paper(work), work)
            for moment in found[0] + found[2]:
                check_plain(self, moment)

    def test_small_works_with_many_ties_agree(self):
        samples = Samples(21)
        for k in range(150):
            size = 1 + k % 5
            row = [(1, 1), (1, 1), (0, 1), (2, 1), None, None, None, None, None]
            work = [[row[samples.number(5 + k % 5)] for _ in range(size)] for _ in range(size)]
            self.assertEqual(rate_paper(work), slow_paper(work), work)

    def test_sparse_works_of_12_and_14_events_agree(self):
        samples = Samples(22)
        for size in (12, 14):
            for k in range(6):
                parts = ([size], [5, size - 5], [3, 4, size - 7])[k % 3]
                work = beside(*[ring(part, (0, 1)) for part in parts])
                for i in range(size):
                    for j in range(size):
                        if work[i][j] is not None:
                            work[i][j] = samples.moment(1 if k > 2 else 0)
                for _ in range(4):
                    work[samples.number(size)][samples.number(size)] = samples.moment(0)
                self.assertEqual(rate_paper(work), slow_paper(work), work)

    def test_full_works_of_12_and_14_events(self):
        samples = Samples(23)
        for size in (12, 14):
            for values in ([(1, 1)], [(1, 1), (2, 1)], [(-1, 2), (5, 3), (0, 1), (7, 4)]):
                work = [[values[samples.number(len(values))] for _ in range(size)] for _ in range(size)]
                self.check_by_powers(work)
                self.check_by_powers(without_own_waits(work))

    def check_by_powers(self, work):
        """Check the paper of a work, in which all events reach each other, by its powers."""
        size = len(work)
        powers = [power(work, k) for k in range(size + 1)]
        means = {}
        for k in range(1, size + 1):
            closed = [value_of(powers[k][v][v]) for v in range(size) if powers[k][v][v] is not None]
            if closed:
                means[k] = max(closed) / k
        rate = max(means.values())
        length = min(k for k in means if means[k] == rate)
        self.assertLess(length, 4, "the sample is not good for this test")
        for walk in permutations(range(size), length):
            circuit = list(walk) + [walk[0]]
            if is_circuit(work, circuit) and slow_mean(work, circuit) == rate:
                break
        heights = [
            max(value_of(powers[k][i][j]) - k * rate for k in range(size) for j in range(size)
                if powers[k][i][j] is not None)
            for i in range(size)
        ]
        self.check(work, ([pair(rate)] * size, [circuit] * size, [pair(height) for height in heights]))

    def test_other_names_of_events(self):
        samples = Samples(24)
        for size in (4, 12, 14):
            work = samples.work(size, 7)
            order = [(5 * k + 3) % size for k in range(size)]
            plain, other = rate_paper(work), rate_paper(renamed(work, order))
            self.assertEqual(other[0], [plain[0][k] for k in order])
            self.assertEqual(other[2], [plain[2][k] for k in order])

    def test_numbers_beyond_valid_works(self):
        big = 10 ** 30
        self.check([whole(None, big), whole(big + 1, None)],
                   ([(2 * big + 1, 2)] * 2, [[0, 1, 0]] * 2, [(0, 1), (1, 2)]))
        self.check([[(1, big)]], ([(1, big)], [[0, 0]], [(0, 1)]))
        self.check(ring(30, (1, 7)), ([(1, 7)] * 30, [list(range(30)) + [0]] * 30, [(0, 1)] * 30))

    def test_rows_that_are_one_list(self):
        row = whole(1, 1)
        self.check([row, row], (whole(1, 1), [[0, 0], [0, 0]], whole(0, 0)))

    def test_the_circuits_are_different_lists(self):
        for work in (full(4, (1, 1)), SIX, ring(3, (1, 2))):
            found = rate_paper(work)
            found[1][0].append("more")
            self.assertNotIn("more", found[1][1])


class Rates(unittest.TestCase):
    def test_by_hand(self):
        for event, expected in enumerate(SIX_PAPER[0]):
            self.assertEqual(check_call(self, rate_of, SIX, event), expected)
        self.assertIsNone(rate_of([[None]], 0))
        self.assertEqual(rate_of([[(-2, 7)]], 0), (-2, 7))
        self.assertEqual(rate_of(ring(14, (3, 1)), 13), (3, 1))

    def test_agrees_with_all_circuits(self):
        for work in Samples(25).works(60, 4):
            for event, expected in enumerate(slow_rates(work)):
                found = rate_of(work, event)
                self.assertEqual(found, pair(expected))
                check_plain(self, found)

    def test_events_out_of_range_are_refused(self):
        for event in (6, 7, 100, -1, -2, -5, -6, -7, 10 ** 30):
            check_refused(self, OutOfRange, rate_of, SIX, event)
        for event in (1, -1, -2):
            check_refused(self, OutOfRange, rate_of, [[None]], event)
            check_refused(self, OutOfRange, rate_of, [[(1, 1)]], event)

    def test_runs_grow_by_the_rates(self):
        samples = Samples(26)
        for work in samples.works(40, 5) + [SIX]:
            size = len(work)
            vector = samples.vector(size, 0)
            found = [rate_of(work, event) for event in range(size)]
            for steps in (size, size + 1, 500, 5000):
                moments = round_after(work, vector, steps)
                for moment, rate in zip(moments, found):
                    if rate is None:
                        self.assertIsNone(moment)
                    else:
                        rest = value_of(moment) - steps * value_of(rate)
                        # The samples have moments of at most 10, so no detour costs more than this.
                        self.assertLessEqual(abs(rest), 20 * 2 * (size + 1))


class Judging(unittest.TestCase):
    def check(self, expected, work, *paper):
        kept = copy.deepcopy((work, paper))
        self.assertIs(is_rate_paper(work, paper), expected, (work, paper))
        self.assertEqual((work, paper), kept)
        self.assertIs(slow_judge(work, paper), expected, (work, paper))

    def altered(self, part, at, value):
        paper = copy.deepcopy(SIX_PAPER)
        paper[part][at] = value
        return paper

    def test_computed_papers(self):
        for work in Samples(30).works(40, 4) + [SIX, full(3, (1, 1)), full(2, None), idle(4)]:
            self.check(True, work, *rate_paper(work))

    def test_computed_papers_of_12_and_14_events(self):
        samples = Samples(31)
        for size in (12, 14):
            for gaps in (0, 5, 8, 9):
                work = samples.work(size, gaps)
                self.assertIs(check_call(self, is_rate_paper, work, rate_paper(work)), True)

    def test_potentials_of_one_rate_moved_together(self):
        for shift in ((1, 1), (-7, 3), (10 ** 20, 1)):
            for members in ([0, 1, 5], [2], [3, 4]):
                paper = copy.deepcopy(SIX_PAPER)
                for event in members:
                    paper[2][event] = pair(value_of(paper[2][event]) + value_of(shift))
                self.check(True, SIX, *paper)

    def test_potentials_that_fit_otherwise(self):
        # Events without a rate need no whole potentials, and event 5 may be later than it has to be.
        self.check(True, SIX, *self.altered(2, 3, (9, 10)))
        self.check(True, SIX, *self.altered(2, 4, (1, 10 ** 20)))
        self.check(True, SIX, *self.altered(2, 5, (100, 1)))
        self.check(False, SIX, *self.altered(2, 0, (-1, 10 ** 20)))

    def test_potentials_too_small_by_a_little(self):
        little = Fraction(1, 10 ** 12)
        for event in (1, 5):
            self.check(False, SIX, *self.altered(2, event, pair(value_of(SIX_PAPER[2][event]) - little)))
        self.check(False, SIX, *self.altered(2, 0, pair(little)))
        self.check(False, SIX, *self.altered(2, 4, (0, 1)))
        self.check(False, SIX, *self.altered(2, 4, (-1, 1)))
        self.check(False, SIX, *self.altered(2, 3, (1, 1)))

    def test_rates_altered(self):
        little = Fraction(1, 10 ** 12)
        for event in range(6):
            rate = value_of(SIX_PAPER[0][event])
            for other in (None, (0, 1), (3, 2), (2, 1), (100, 1)):
                if other != SIX_PAPER[0][event]:
                    self.check(False, SIX, *self.altered(0, event, other))
            if rate is not None:
                self.check(False, SIX, *self.altered(0, event, pair(rate - little)))
                self.check(False, SIX, *self.altered(0, event, pair(rate + little)))
                self.check(False, SIX, *self.altered(0, event, pair(-rate)))

    def test_a_circuit_with_a_lower_mean_and_its_rate(self):
        work = [whole(1, 2), whole(2, 1)]
        self.check(True, work, whole(2, 2), [[0, 1, 0]] * 2, whole(0, 0))
        for heights in (whole(0, 0), whole(0, 100), whole(100, 0), whole(-1, 0)):
            self.check(False, work, whole(1, 1), [[0, 0]] * 2, heights)
            self.check(False, work, whole(1, 1), [[0, 0], [1, 1]], heights)
            self.check(False, work, whole(2, 1), [[0, 1, 0], [1, 1]], heights)
            self.check(False, work, whole(1, 2), [[0, 0], [0, 1, 0]], heights)

    def test_a_rate_that_is_lower_than_that_of_a_wait(self):
        work = [whole(3, None), whole(0, 1)]
        self.check(True, work, whole(3, 3), [[0, 0]] * 2, whole(0, 0))
        self.check(True, work, whole(3, 3), [[0, 0]] * 2, whole(0, -3))
        self.check(False, work, whole(3, 3), [[0, 0]] * 2, whole(0, -4))
        self.check(False, work, whole(3, 1), [[0, 0], [1, 1]], whole(0, 0))
        self.check(False, work, [(3, 1), None], [[0, 0], None], whole(0, 1))
        self.check(False, work, [None, (1, 1)], [None, [1, 1]], whole(0, 0))
        self.check(False, work, [None, None], [None, None], whole(0, 1))

    def test_greater_rates_free_the_potentials(self):
        work = [whole(1, None), whole(50, 2)]
        for heights in (whole(0, 0), whole(1000, -1000), whole(-1000, 1000)):
            self.check(True, work, whole(1, 2), [[0, 0], [1, 1]], heights)

    def test_another_circuit_of_the_same_mean_is_good(self):
        work = full(3, (1, 1))
        circuits = [[0, 0], [1, 1], [2, 2], [0, 1, 0], [1, 2, 1], [0, 2, 0], [0, 1, 2, 0], [0, 2, 1, 0]]
        for one in circuits:
            self.check(True, work, whole(1, 1, 1), [one, [0, 0], [1, 1]], whole(0, 0, 0))
        self.check(True, work, whole(1, 1, 1), [circuits[7]] * 3, whole(5, 5, 5))

    def test_bad_circuits(self):
        for circuit in (
            [], [0], [1], [0, 1], [1, 0, 1], [0, 1, 0, 1, 0], [0, 0], [1, 1], [0, 0, 1, 0], [0, 1, 1, 0], [0, 2, 0],
            [2, 2], [5, 5], [0, 5, 0], [6, 6], [0, 6, 0], [-1, -1], [-6, -5, -6], [-6, 1, -6], [0, -5, 0], [3, 3],
            [3, 4, 3], [10 ** 30, 10 ** 30], [0, 1, 2], [0, 1, 0, 0], None,
        ):
            for event in (0, 1, 5):
                self.check(False, SIX, *self.altered(1, event, circuit))
        for circuit in ([0, 1, 0], [2], [], [-4, -4], [2, 2, 2], None, [-1, -1], [8, 8]):
            self.check(False, SIX, *self.altered(1, 2, circuit))

    def test_a_circuit_where_the_rate_is_none(self):
        for event in (3, 4):
            for circuit in ([], [3], [3, 3], [0, 1, 0], [2, 2], [-3, -3], [6]):
                self.check(False, SIX, *self.altered(1, event, circuit))

    def test_a_circuit_that_does_not_reach_the_event(self):
        work = beside(ring(2, (1, 1)), [whole(1)], [whole(None)])
        work[2][0] = (1, 1)
        work[3][2] = (1, 1)
        zeros = whole(0, 0, 0, 0)
        one = whole(1, 1, 1, 1)
        self.check(True, work, one, [[0, 1, 0], [0, 1, 0], [0, 1, 0], [2, 2]], zeros)
        self.check(True, work, one, [[0, 1, 0], [0, 1, 0], [2, 2], [0, 1, 0]], zeros)
        self.check(False, work, one, [[2, 2], [0, 1, 0], [2, 2], [2, 2]], zeros)
        self.check(False, work, one, [[0, 1, 0], [2, 2], [2, 2], [2, 2]], zeros)

    def test_exchanged_items(self):
        for part in range(3):
            for one in range(6):
                for other in range(one):
                    paper = copy.deepcopy(SIX_PAPER)
                    paper[part][one], paper[part][other] = paper[part][other], paper[part][one]
                    self.assertIs(is_rate_paper(SIX, paper), slow_judge(SIX, paper), paper)
                    if paper[part] != SIX_PAPER[part] and part < 2:
                        self.assertIs(is_rate_paper(SIX, paper), False, paper)

    def test_none_as_a_potential(self):
        for event in range(6):
            self.check(False, SIX, *self.altered(2, event, None))
        self.check(False, [[None]], [None], [None], [None])
        self.check(False, [whole(1)], whole(1), [[0, 0]], [None])

    def test_fractions_of_a_wrong_form(self):
        for part in (0, 2):
            for event in range(6):
                top, low = SIX_PAPER[part][event] or (0, 1)
                for bad in ((top * 2, low * 2), (-top, -low), (top, 0), (0, 0), (1, 0), (-1, 0), (top, -low), (0, 2),
                            (0, -1), (3 * 10 ** 20, 2 * 10 ** 20)):
                    self.check(False, SIX, *self.altered(part, event, bad))
        # The values are right, and only the form is wrong.
        self.check(False, [whole(2)], [(4, 2)], [[0, 0]], whole(0))
        self.check(False, [whole(2)], [(-2, -1)], [[0, 0]], whole(0))
        self.check(False, [whole(2)], whole(2), [[0, 0]], [(0, 5)])
        self.check(False, [whole(2)], whole(2), [[0, 0]], [(6, 4)])
        self.check(False, [[None]], [None], [None], [(0, -1)])
        self.check(True, [whole(2)], whole(2), [[0, 0]], [(3, 2)])

    def test_lists_that_are_too_short_or_too_long(self):
        for part in range(3):
            for change in (lambda found: found[:-1], lambda found: found[1:], lambda found: [],
                           lambda found: found + [found[-1]], lambda found: found + [None], lambda found: found * 2):
                paper = list(copy.deepcopy(SIX_PAPER))
                paper[part] = change(paper[part])
                self.check(False, SIX, *paper)
        for size in (0, 1, 5, 7, 12):
            self.check(False, SIX, [None] * size, [None] * size, whole(*range(size)))
        self.check(False, [[None]], [], [], [])
        for change in (lambda found: found[:-1], lambda found: found + found[:1]):
            self.check(False, SIX, *[change(part) for part in SIX_PAPER])

    def test_paper_of_another_work(self):
        works = [SIX, ring(6, (1, 1)), ring(6, (2, 1)), full(6, None), idle(6), full(6, (3, 2)), ring(5, (1, 1))]
        for work in works:
            for other in works:
                self.check(work is other, work, *rate_paper(other))

    def test_changes_to_the_work(self):
        paper = SIX_PAPER
        for i in range(6):
            for j in range(6):
                for moment in (None, (0, 1), (1, 1), (3, 2), (50, 1), (-50, 1)):
                    work = copy.deepcopy(SIX)
                    work[i][j] = moment
                    self.assertIs(is_rate_paper(work, paper), slow_judge(work, paper), work)

    def test_altered_papers_of_samples(self):
        samples = Samples(32)
        answers = {True: 0, False: 0}
        for work in samples.works(40, 4):
            size = len(work)
            plain = rate_paper(work)
            circuits = all_circuits(work) + [None, [], [0, 0], [size, size], [-1, -1]]
            for k in range(24):
                paper = copy.deepcopy(plain)
                at = samples.number(size)
                if k % 3 == 0:
                    paper[0][at] = samples.moment(3)
                elif k % 3 == 1:
                    paper[1][at] = circuits[samples.number(len(circuits))]
                else:
                    paper[2][at] = fraction(samples.number(30) - 10, 1 + samples.number(3))
                expected = slow_judge(work, paper)
                self.assertIs(is_rate_paper(work, paper), expected, (work, paper))
                answers[expected] += 1
        self.assertGreater(min(answers.values()), 100, answers)

    def test_circuits_that_are_one_list(self):
        circuit = [0, 1, 0]
        work = ring(2, (1, 1))
        self.check(True, work, whole(1, 1), [circuit, circuit], whole(0, 0))

    def test_reached_events_of_a_good_paper(self):
        for work in Samples(33).works(30, 5):
            found, circuits, _ = rate_paper(work)
            for event, circuit in enumerate(circuits):
                self.assertEqual(circuit is None, found[event] is None)
                if circuit is not None:
                    self.assertIs(is_circuit(work, circuit), True)
                    self.assertIn(event, reached_from(work, circuit[0]))


class Interface(unittest.TestCase):
    def test_names_and_arguments(self):
        expected = {"rate_paper": ["work"], "is_rate_paper": ["work", "paper"], "rate_of": ["work", "event"]}
        for name, arguments in expected.items():
            function = getattr(module, name)
            self.assertEqual(list(inspect.signature(function).parameters), arguments, name)
            self.assertEqual(function.__module__, "latelaw.rates")


if __name__ == "__main__":
    unittest.main()
