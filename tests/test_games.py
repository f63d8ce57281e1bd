"""Points 29 to 34: works with late and early events, their runs, papers and choices."""

import copy
import inspect
import itertools
import unittest
from fractions import Fraction

from latelaw import games
from latelaw.errors import BadWork, OutOfRange, TooLong
from latelaw.games import check_mixed, choice_of, game_paper, is_game_paper, mixed_repeating, mixed_round, outcome
from latelaw.rates import rate_of
from latelaw.runs import repeating
from latelaw.works import next_round
from tests.helpers import Samples, beside, check_call, check_plain, check_refused, pair, ring, value_of, whole

LITTLE = Fraction(1, 10 ** 20)
# Event 0 is late, event 1 early. Event 0 gets the later one of two circuits that event 1 lets it have.
BOTH = ([whole(1, 4), whole(2, 3)], ["late", "early"])


def arms_of_event(work, event):
    return [j for j, moment in enumerate(work[event]) if moment is not None]


def mixed_sample(samples, size, gaps, small=False):
    """A mixed work with random sides, in which each event has an arm."""
    work = samples.work(size, gaps)
    if small:
        work = [[None if moment is None else (samples.number(4) - 1, 1) for moment in row] for row in work]
    for row in work:
        if row == [None] * size:
            row[samples.number(size)] = (samples.number(7) - 3, 1)
    return (work, [("late", "early")[samples.number(2)] for _ in work])


def mixed_samples(seed, many, most):
    samples = Samples(seed)
    return [mixed_sample(samples, 1 + k % most, (0, 3, 6, 8)[k % 4], k % 3 == 0) for k in range(many)]


def slow_mixed_run(mixed, steps):
    """The vectors of the run from zeros, as Fractions."""
    work, sides = mixed
    arms = [[(j, value_of(row[j])) for j in range(len(work)) if row[j] is not None] for row in work]
    found = [[Fraction(0)] * len(work)]
    for _ in range(steps):
        last = found[-1]
        found.append([
            (max if side == "late" else min)(last[j] + time for j, time in row) for side, row in zip(sides, arms)
        ])
    return found


def slow_outcome(work, choice, event):
    """The mean and the circuit to which an event leads, by point 33."""
    way = [event]
    while choice[way[-1]] not in way:
        way.append(choice[way[-1]])
    circle = way[way.index(choice[way[-1]]):]
    at = circle.index(min(circle))
    circle = circle[at:] + circle[:at]
    time = sum((value_of(work[i][choice[i]]) for i in circle), Fraction(0))
    return (pair(time / len(circle)), circle + [circle[0]])


def all_choices(mixed, fixed):
    """All choices that have the arms of a dict for some events."""
    work, _ = mixed
    arms = [[fixed[event]] if event in fixed else arms_of_event(work, event) for event in range(len(work))]
    return [list(choice) for choice in itertools.product(*arms)]


def side_choices(mixed, side):
    """All the ways, as dicts, in which one side can choose."""
    work, sides = mixed
    events = [event for event in range(len(work)) if sides[event] == side]
    return [dict(zip(events, arms)) for arms in itertools.product(*[arms_of_event(work, event) for event in events])]


def slow_values(mixed):
    """The greatest mean, as a Fraction, that the late side can make sure of, for each event."""
    work, _ = mixed
    means = {}
    for choice in all_choices(mixed, {}):
        means[tuple(choice)] = [value_of(slow_outcome(work, choice, event)[0]) for event in range(len(work))]
    found = []
    for event in range(len(work)):
        found.append(max(
            min(means[tuple(choice)][event] for choice in all_choices(mixed, late))
            for late in side_choices(mixed, "late")
        ))
    return found


def slow_mixed_repeating(run, rates):
    """The repeating by point 32, if it can be seen in the first half of what is known."""
    half = len(run) // 2
    for period in range(1, half):
        start = len(run) - period
        while start > 0 and run[start - 1 + period] == [x + period * v for x, v in zip(run[start - 1], rates)]:
            start -= 1
        if start + 2 * period <= half:
            return (start, period)
    return None


def slow_is_game_paper(mixed, paper):
    """Point 31, word by word."""
    work, sides = mixed
    if any(len(column) != len(work) for column in paper):
        return False
    rates, lows, highs = [[value_of(one) for one in column] for column in paper]
    for i, side in enumerate(sides):
        below, above = [], []
        for j in arms_of_event(work, i):
            time = value_of(work[i][j])
            below.append(rates[j] > rates[i] or rates[j] == rates[i] and time + lows[j] >= rates[i] + lows[i])
            above.append(rates[j] < rates[i] or rates[j] == rates[i] and time + highs[j] <= rates[i] + highs[i])
        proved = any(below) and all(above) if side == "late" else all(below) and any(above)
        if not proved:
            return False
    return True


def turned(mixed):
    """The mixed work in which earlier and later are exchanged."""
    work, sides = mixed
    turned_work = [[None if moment is None else (-moment[0], moment[1]) for moment in row] for row in work]
    return (turned_work, ["early" if side == "late" else "late" for side in sides])


def turned_pairs(pairs):
    return [(-top, low) for top, low in pairs]


def late_mixed(thousandths):
    """A mixed work whose run repeats from the step thousandths + 1 with the period 1.

    Event 2 waits for event 0, which stands still, until event 1 comes up with it by thousandths.
    """
    work = [whole(0, None, None), [None, (1, 1000), None], [pair(Fraction(thousandths, 1000)), (0, 1), None]]
    return (work, ["late", "early", "late"])


def late_mixed_ring(thousandths, size):
    """The same beside a ring that has its size as its period."""
    work, sides = late_mixed(thousandths)
    circle = ring(size, (0, 1))
    circle[0][size - 1] = (1, 1)
    return (beside(circle, work), ["early"] * size + sides)


class CheckMixed(unittest.TestCase):
    def test_valid_ones(self):
        for mixed in (
            BOTH, ([whole(0)], ["late"]), ([whole(0)], ["early"]), late_mixed(3),
            (ring(12, (1, 2)), ["late"] * 12),
        ):
            self.assertIsNone(check_call(self, check_mixed, mixed))
        for mixed in mixed_samples(90, 40, 5):
            self.assertIsNone(check_call(self, check_mixed, mixed))

    def test_faults_of_the_work(self):
        for work in (
            [], [[]], [whole(1, 2)], [whole(1), whole(2)], [whole(1, 2), whole(3)], [[(2, 4)]], [[(1, 0)]], [[(1, -1)]],
            [[(0, 2)]], [[(1000001, 1)]], [[(-1000001, 1)]], [[(1, 1000001)]], ring(13, (1, 1)),
        ):
            for count in {1, len(work)}:
                check_refused(self, BadWork, check_mixed, (work, ["late"] * count))
        self.assertIsNone(check_mixed(([[(-1000000, 999999)]], ["early"])))

    def test_faults_of_the_sides(self):
        work = BOTH[0]
        for sides in (
            [], ["late"], ["early"], ["late", "early", "late"], ["late", "l"], ["", "late"], ["Late", "early"],
            ["late", "early "], ["late", "lateearly"], ["late", "LATE"], ["none", "none"],
        ):
            check_refused(self, BadWork, check_mixed, (work, sides))

    def test_rows_without_a_moment(self):
        for work in ([whole(None)], [whole(None, None), whole(1, 2)], [whole(1, 2), whole(None, None)]):
            for side in ("late", "early"):
                check_refused(self, BadWork, check_mixed, (work, [side] * len(work)))
        self.assertIsNone(check_mixed(([whole(None, 1), whole(None, 2)], ["late", "early"])))


class Rounds(unittest.TestCase):
    WORK = [whole(1, 4, None), whole(2, 3, 9), [None, None, (-1, 2)]]

    def check(self, sides, vector, expected):
        self.assertEqual(check_call(self, mixed_round, (self.WORK, sides), vector), expected)

    def test_by_hand(self):
        vector = whole(5, 0, -4)
        self.check(["late"] * 3, vector, [(6, 1), (7, 1), (-9, 2)])
        self.check(["early"] * 3, vector, [(4, 1), (3, 1), (-9, 2)])
        self.check(["late", "early", "late"], vector, [(6, 1), (3, 1), (-9, 2)])
        self.check(["early", "late", "early"], vector, [(4, 1), (7, 1), (-9, 2)])
        self.check(["early", "late", "early"], [(1, 2), (1, 3), (1, 6)], [(3, 2), (55, 6), (-1, 3)])

    def test_late_events_alone_are_as_in_a_work(self):
        samples = Samples(91)
        for work, _ in mixed_samples(92, 60, 5):
            vector = samples.vector(len(work), 0)
            found = check_call(self, mixed_round, (work, ["late"] * len(work)), vector)
            self.assertEqual(found, next_round(work, vector))

    def test_samples_agree_with_the_definition(self):
        samples = Samples(93)
        for mixed in mixed_samples(94, 100, 5):
            work, sides = mixed
            vector = samples.vector(len(work), 0)
            found = check_call(self, mixed_round, mixed, vector)
            for i, moment in enumerate(found):
                sums = [value_of(work[i][j]) + value_of(vector[j]) for j in arms_of_event(work, i)]
                self.assertEqual(moment, pair(max(sums) if sides[i] == "late" else min(sums)))
                check_plain(self, moment)


class Repeatings(unittest.TestCase):
    def check(self, mixed, expected):
        found = check_call(self, mixed_repeating, mixed)
        self.assertEqual(found, expected, mixed)
        self.assertIs(type(found), tuple)

    def test_by_hand(self):
        for side in ("late", "early"):
            self.check(([[(-7, 3)]], [side]), (0, 1))
            self.check((ring(3, (1, 2)), [side] * 3), (0, 1))
            self.check(([whole(None, 5), whole(3, None)], [side] * 2), (0, 2))
        self.check(BOTH, (2, 1))
        for thousandths in (0, 1, 2, 5, 40):
            self.check(late_mixed(thousandths), (thousandths + 1, 1))

    def test_periods_of_rings(self):
        for size in range(2, 9):
            self.check(late_mixed_ring(0, size), (1, size))
            self.check(late_mixed_ring(30, size), (31, size))
            self.check(turned(late_mixed_ring(30, size)), (31, size))
        circles = beside(*[[[(int(j == (i - 1) % size and i == 0), 1) if j == (i - 1) % size else None
                             for j in range(size)] for i in range(size)] for size in (3, 4, 5)])
        self.check((circles, ["late", "early"] * 6), (0, 60))

    def test_late_events_alone_are_as_in_runs(self):
        for work, _ in mixed_samples(95, 80, 5):
            mixed = (work, ["late"] * len(work))
            start, period = repeating(work, whole(*[0] * len(work)))
            if start + 2 * period <= 1000:
                self.assertEqual(mixed_repeating(mixed), (start, period))
                self.assertEqual(game_paper(mixed)[0], [rate_of(work, event) for event in range(len(work))])

    def test_equal_growths_that_do_not_last(self):
        # For long all events stand still, but event 1 comes back to event 0 in the end.
        work = [whole(0, None, None), whole(3, None, 0), [None, None, (1, 50)]]
        self.check((work, ["late", "late", "late"]), (151, 1))
        self.check((work, ["late", "early", "late"]), (151, 1))
        work = [whole(0, None, None), whole(-3, None, 0), [None, None, (-1, 50)]]
        self.check((work, ["late", "early", "late"]), (151, 1))

    def test_a_first_step_that_is_as_long_as_the_later_ones(self):
        # Event 2 waits for event 0 in the first step, and gains as much in it as it does in the end.
        mixed = ([whole(0, None, None), whole(None, 1, None), whole(1, -10, None)], ["late", "late", "late"])
        self.check(mixed, (12, 1))
        self.check(turned(mixed), (12, 1))

    def test_even_steps_that_repeat_before_the_odd_ones(self):
        # Events 0 and 1 hold up event 3 at every second step only, or at the others for longer.
        for high, expected in ((-40, (46, 2)), (40, (85, 2))):
            work = [whole(None, high, None, None), whole(-high, None, None, None), whole(None, None, 1, None),
                    whole(45, None, 0, None)]
            run = slow_mixed_run((work, ["late"] * 4), 240)
            self.assertEqual(slow_mixed_repeating(run, [0, 0, 1, 1]), expected)
            for sides in (["late"] * 4, ["early"] * 3 + ["late"]):
                self.check((work, sides), expected)
                self.check(turned((work, sides)), expected)

    def test_samples_agree_with_long_runs_and_all_choices(self):
        seen = {}
        for mixed in mixed_samples(96, 160, 4):
            run = slow_mixed_run(mixed, 240)
            expected = slow_mixed_repeating(run, slow_values(mixed))
            if expected is not None:
                self.check(mixed, expected)
                seen[expected] = True
        self.assertGreater(len(seen), 15, seen)
        self.assertGreater(max(period for _, period in seen), 2)
        self.assertGreater(max(start for start, _ in seen), 10)

    def test_exactly_1000(self):
        for mixed, expected in (
            (late_mixed(997), (998, 1)), (turned(late_mixed(997)), (998, 1)), (late_mixed_ring(989, 5), (990, 5)),
            (turned(late_mixed_ring(989, 5)), (990, 5)), (late_mixed_ring(983, 8), (984, 8)),
            (late_mixed_ring(988, 5), (989, 5)), (late_mixed(996), (997, 1)),
        ):
            self.assertEqual(mixed_repeating(mixed), expected)
            self.assertIs(is_game_paper(mixed, game_paper(mixed)), True)
        self.check(late_mixed(997), (998, 1))

    def test_more_than_1000_is_refused(self):
        slow = [[(0, 1), None, None], [None, (1, 1000000), None], whole(1, 0, None)]
        for mixed in (
            late_mixed(998), late_mixed(999), late_mixed(5000), turned(late_mixed(998)), late_mixed_ring(990, 5),
            late_mixed_ring(991, 5), late_mixed_ring(998, 5), late_mixed_ring(1000, 5), late_mixed_ring(984, 8),
            turned(late_mixed_ring(990, 5)), (slow, ["late"] * 3), turned((slow, ["late"] * 3)),
        ):
            check_refused(self, TooLong, mixed_repeating, mixed)
            check_refused(self, TooLong, game_paper, mixed)

    def test_steps_near_powers_of_2(self):
        for thousandths in (1, 2, 3, 4, 5, 6, 7, 12, 13, 14, 28, 29, 30, 60, 61, 62, 252, 253, 508, 509, 510, 511):
            self.check(late_mixed(thousandths), (thousandths + 1, 1))


class GamePapers(unittest.TestCase):
    def test_by_hand(self):
        self.assertEqual(check_call(self, game_paper, ([[(-7, 3)]], ["early"])), ([(-7, 3)], whole(0), whole(0)))
        mixed = ([whole(None, 5), whole(3, None)], ["late", "early"])
        self.assertEqual(check_call(self, game_paper, mixed), (whole(4, 4), whole(1, 0), whole(0, -1)))
        self.assertEqual(check_call(self, game_paper, BOTH), (whole(3, 3), whole(0, -1), whole(0, -1)))
        found = check_call(self, game_paper, late_mixed(3))
        self.assertEqual(found[0], [(0, 1), (1, 1000), (1, 1000)])
        self.assertEqual(found[1], [(0, 1), (0, 1), (-1, 1000)])
        self.assertEqual(found[1], found[2])

    def test_samples_agree_with_the_definition(self):
        wide = 0
        for mixed in mixed_samples(97, 160, 4):
            rates = slow_values(mixed)
            run = slow_mixed_run(mixed, 160)
            expected = slow_mixed_repeating(run, rates)
            if expected is None:
                continue
            start, period = expected
            differences = [
                [run[k][i] - k * rates[i] for k in range(start, start + period)] for i in range(len(rates))
            ]
            found = check_call(self, game_paper, mixed)
            self.assertIs(type(found), tuple)
            self.assertEqual(found, (
                [pair(rate) for rate in rates], [pair(max(row)) for row in differences],
                [pair(min(row)) for row in differences],
            ))
            self.assertIs(slow_is_game_paper(mixed, found), True)
            for column in found:
                for moment in column:
                    check_plain(self, moment)
            wide += found[1] != found[2]
        self.assertGreater(wide, 10)

    def test_runs_from_other_vectors_stay_near(self):
        samples = Samples(98)
        for mixed in mixed_samples(99, 30, 4):
            rates, lows, highs = game_paper(mixed)
            vector = samples.vector(len(rates), 0)
            far = max(abs(value_of(moment)) for moment in vector) + max(
                abs(value_of(bound)) for bound in lows + highs) + 40
            for k in range(1, 60):
                vector = mixed_round(mixed, vector)
                for moment, rate in zip(vector, rates):
                    self.assertLess(abs(value_of(moment) - k * value_of(rate)), 3 * far)

    def test_turned_works(self):
        for mixed in mixed_samples(100, 60, 5):
            rates, lows, highs = game_paper(mixed)
            self.assertEqual(mixed_repeating(turned(mixed)), mixed_repeating(mixed))
            self.assertEqual(game_paper(turned(mixed)), (turned_pairs(rates), turned_pairs(highs), turned_pairs(lows)))


class IsGamePaper(unittest.TestCase):
    def check(self, mixed, paper):
        expected = slow_is_game_paper(mixed, paper)
        self.assertIs(check_call(self, is_game_paper, mixed, paper), expected, (mixed, paper))
        return expected

    def test_computed_papers(self):
        for mixed in mixed_samples(101, 60, 6):
            self.assertIs(check_call(self, is_game_paper, mixed, game_paper(mixed)), True)

    def test_each_item_changed(self):
        answers = {True: 0, False: 0}
        for mixed in mixed_samples(102, 40, 4):
            paper = game_paper(mixed)
            for column in range(3):
                for event in range(len(mixed[0])):
                    for change in (LITTLE, -LITTLE, Fraction(1, 2), -Fraction(3)):
                        changed = copy.deepcopy(paper)
                        changed[column][event] = pair(value_of(paper[column][event]) + change)
                        answers[self.check(mixed, changed)] += 1
                        # The rates of a work have no other papers.
                        self.assertFalse(column == 0 and is_game_paper(mixed, changed))
        self.assertGreater(min(answers.values()), 100, answers)

    def test_single_conditions(self):
        # One arm that is too early for a late event is no harm if another one is good below.
        mixed = ([whole(2, 0), whole(None, 2)], ["late", "late"])
        self.assertIs(is_game_paper(mixed, (whole(2, 2), whole(0, 0), whole(0, 0))), True)
        self.assertIs(is_game_paper(mixed, (whole(2, 2), whole(0, 0), whole(0, 3))), False)
        self.assertIs(is_game_paper(mixed, (whole(2, 2), whole(0, -50), whole(0, 2))), True)
        mixed = ([whole(2, 4), whole(None, 2)], ["early", "early"])
        self.assertIs(is_game_paper(mixed, (whole(2, 2), whole(0, 0), whole(0, 0))), True)
        self.assertIs(is_game_paper(mixed, (whole(2, 2), whole(0, -3), whole(0, 0))), False)
        self.assertIs(is_game_paper(mixed, (whole(2, 2), whole(0, -2), whole(0, 50))), True)

    def test_rates_that_no_paper_has(self):
        mixed = ([whole(1, None), whole(0, 2)], ["late", "late"])
        self.assertIs(is_game_paper(mixed, (whole(1, 2), whole(0, 0), whole(0, 0))), True)
        for rates in (whole(1, 1), whole(2, 2), whole(2, 1), whole(1, 3), whole(0, 2), [(1, 1), (3, 2)]):
            for lows in (whole(0, 0), whole(-9, 9), whole(9, -9)):
                for highs in (whole(0, 0), whole(-9, 9), whole(9, -9)):
                    self.assertIs(is_game_paper(mixed, (rates, lows, highs)), False)

    def test_other_lengths(self):
        paper = game_paper(BOTH)
        self.assertIs(is_game_paper(BOTH, paper), True)
        for column in range(3):
            for items in ([], paper[column][:1], paper[column] + whole(0), paper[column] * 2):
                changed = [list(one) for one in paper]
                changed[column] = items
                self.assertIs(check_call(self, is_game_paper, BOTH, tuple(changed)), False)
        for paper in (([], [], []), (whole(3), whole(1), whole(1)), (whole(3, 3, 3), whole(1, 0, 0), whole(1, 0, 0))):
            self.assertIs(is_game_paper(BOTH, paper), False)

    def test_papers_of_other_works(self):
        works = mixed_samples(103, 60, 3)
        answers = {True: 0, False: 0}
        for mixed in works:
            for other in works[:20]:
                answers[self.check(mixed, game_paper(other))] += 1
        self.assertGreater(min(answers.values()), 20, answers)
        self.assertIs(is_game_paper((BOTH[0], ["early", "late"]), game_paper(BOTH)), False)
        self.assertIs(is_game_paper((BOTH[0], ["early", "early"]), game_paper(BOTH)), False)

    def test_what_is_not_in_lowest_terms(self):
        mixed = ([whole(2)], ["late"])
        for paper in (([(4, 2)], whole(0), whole(0)), (whole(2), [(0, 2)], whole(0)), (whole(2), whole(0), [(0, -1)])):
            self.assertIs(is_game_paper(mixed, paper), False)
        for column in range(3):
            paper = [list(one) for one in game_paper(BOTH)]
            top, low = paper[column][1]
            paper[column][1] = (2 * top, 2 * low)
            self.assertIs(is_game_paper(BOTH, tuple(paper)), False)

    def test_samples_agree_with_the_definition(self):
        samples = Samples(104)
        answers = {True: 0, False: 0}
        for mixed in mixed_samples(105, 200, 3):
            rates, _, _ = game_paper(mixed)
            size = len(rates)
            for _ in range(4):
                paper = (list(rates), whole(*[samples.number(9) - 4 for _ in range(size)]),
                         whole(*[samples.number(9) - 4 for _ in range(size)]))
                answers[self.check(mixed, paper)] += 1
        self.assertGreater(min(answers.values()), 60, answers)


class Choices(unittest.TestCase):
    def test_by_hand(self):
        self.assertEqual(check_call(self, choice_of, BOTH, game_paper(BOTH)), [1, 0])
        for side in ("late", "early"):
            mixed = ([whole(None, 2, 2), whole(1, 1, None), whole(None, 2, 0)], [side] * 3)
            paper = game_paper(mixed)
            self.assertEqual(check_call(self, choice_of, mixed, paper), [2, 0, 1] if side == "late" else [2, 0, 2])
        # All arms are good, and the least ones are taken.
        mixed = ([whole(0, 0, 0) for _ in range(3)], ["late", "early", "late"])
        self.assertEqual(choice_of(mixed, game_paper(mixed)), [0, 0, 0])
        mixed = ([whole(None, 0, 0), whole(-1, None, 0), whole(1, None, 0)], ["late", "late", "early"])
        self.assertEqual(choice_of(mixed, (whole(0, 0, 0), whole(0, 0, 0), whole(0, 0, 0))), [1, 2, 2])

    def test_lows_decide_for_late_events_and_highs_for_early_ones(self):
        work = [whole(0, 0), whole(None, 0)]
        zeros = whole(0, 0)
        for lows, expected in ((whole(0, 0), 0), (whole(0, -1), 0)):
            self.assertEqual(choice_of((work, ["late", "late"]), (zeros, lows, zeros)), [expected, 1])
        work = [whole(-1, 0), whole(None, 0)]
        self.assertEqual(choice_of((work, ["late", "late"]), (zeros, whole(0, 0), zeros)), [1, 1])
        work = [whole(1, 0), whole(None, 0)]
        self.assertEqual(choice_of((work, ["early", "early"]), (zeros, whole(0, 0), whole(5, 5))), [1, 1])

    def test_samples_agree_with_the_definition(self):
        for mixed in mixed_samples(106, 80, 5):
            work, sides = mixed
            paper = game_paper(mixed)
            rates, lows, highs = [[value_of(one) for one in column] for column in paper]
            expected = []
            for i, side in enumerate(sides):
                if side == "late":
                    good = [j for j in arms_of_event(work, i) if rates[j] > rates[i] or rates[j] == rates[i]
                            and value_of(work[i][j]) + lows[j] >= rates[i] + lows[i]]
                else:
                    good = [j for j in arms_of_event(work, i) if rates[j] < rates[i] or rates[j] == rates[i]
                            and value_of(work[i][j]) + highs[j] <= rates[i] + highs[i]]
                expected.append(good[0])
            self.assertEqual(check_call(self, choice_of, mixed, paper), expected)

    def test_they_make_sure_of_the_rates(self):
        for mixed in mixed_samples(107, 80, 4):
            work, sides = mixed
            paper = game_paper(mixed)
            choice = choice_of(mixed, paper)
            self.assertEqual([mean for mean, _ in outcome(mixed, choice)], paper[0])
            for side in ("late", "early"):
                fixed = {event: choice[event] for event in range(len(work)) if sides[event] == side}
                for other in all_choices(mixed, fixed):
                    for (mean, _), rate in zip(outcome(mixed, other), paper[0]):
                        if side == "late":
                            self.assertGreaterEqual(value_of(mean), value_of(rate))
                        else:
                            self.assertLessEqual(value_of(mean), value_of(rate))


class Outcomes(unittest.TestCase):
    WORK = [whole(None, 5, 1, None), whole(None, None, 2, 8), whole(4, None, None, None), [None, (1, 2), None, (3, 1)]]
    SIDES = ["late", "early", "late", "early"]

    def test_by_hand(self):
        mixed = (self.WORK, self.SIDES)
        self.assertEqual(check_call(self, outcome, mixed, [1, 2, 0, 3]), [
            ((11, 3), [0, 1, 2, 0]), ((11, 3), [0, 1, 2, 0]), ((11, 3), [0, 1, 2, 0]), ((3, 1), [3, 3]),
        ])
        self.assertEqual(check_call(self, outcome, mixed, [2, 2, 0, 1]), [((5, 2), [0, 2, 0])] * 4)
        self.assertEqual(check_call(self, outcome, mixed, [1, 3, 0, 1]), [((17, 4), [1, 3, 1])] * 4)
        self.assertEqual(check_call(self, outcome, mixed, [1, 3, 0, 3]), [((3, 1), [3, 3])] * 4)

    def test_the_order_of_the_circuit(self):
        # A walk of the circuit would go the other way round.
        work = ring(5, (2, 1))
        self.assertEqual(outcome((work, ["late"] * 5), [4, 0, 1, 2, 3]), [((2, 1), [0, 4, 3, 2, 1, 0])] * 5)
        self.assertEqual(outcome(([whole(7)], ["early"]), [0]), [((7, 1), [0, 0])])

    def test_samples_agree_with_the_definition(self):
        samples = Samples(108)
        for mixed in mixed_samples(109, 150, 6):
            work, _ = mixed
            choice = []
            for event in range(len(work)):
                arms = arms_of_event(work, event)
                choice.append(arms[samples.number(len(arms))])
            found = check_call(self, outcome, mixed, choice)
            self.assertEqual(found, [slow_outcome(work, choice, event) for event in range(len(work))])
            for item in found:
                self.assertIs(type(item), tuple)
                check_plain(self, item[0])

    def test_what_is_no_choice_is_refused(self):
        mixed = (self.WORK, self.SIDES)
        for choice in (
            [], [1], [1, 2, 0], [1, 2, 0, 3, 0], [1, 2, 0, 4], [4, 2, 0, 3], [1, 2, 0, -1], [-3, 2, 0, 3],
            [1, -2, 0, 3], [1, 2, -4, 3], [1, 2, 0, -3], [1, 2, 0, 100], [0, 2, 0, 3], [1, 2, 0, 0], [1, 2, 1, 3],
            [3, 2, 0, 3], [1, 0, 0, 3], [1, 2, 0, 2],
        ):
            check_refused(self, OutOfRange, outcome, mixed, choice)
        check_refused(self, OutOfRange, outcome, ([whole(1)], ["late"]), [-1])
        check_refused(self, OutOfRange, outcome, ([whole(1)], ["late"]), [1])


class Interface(unittest.TestCase):
    def test_names_and_arguments(self):
        expected = {
            "check_mixed": ["mixed"], "mixed_round": ["mixed", "vector"], "mixed_repeating": ["mixed"],
            "game_paper": ["mixed"], "is_game_paper": ["mixed", "paper"], "choice_of": ["mixed", "paper"],
            "outcome": ["mixed", "choice"],
        }
        for name, arguments in expected.items():
            function = getattr(games, name)
            self.assertEqual(list(inspect.signature(function).parameters), arguments, name)
            self.assertEqual(function.__module__, "latelaw.games")


if __name__ == "__main__":
    unittest.main()
