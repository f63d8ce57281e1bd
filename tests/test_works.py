"""Points 5 to 9: works, rounds, products, walks and classes."""

import inspect
import unittest

from latelaw import works
from latelaw.errors import BadWork, OutOfRange
from latelaw.works import check_work, classes, idle, is_active, is_circuit, later_work, next_round
from latelaw.works import power, product, reached_from, round_after, walk_time
from tests.helpers import Samples, check_call, check_plain, check_refused, greatest_times, pair
from tests.helpers import ring, slow_time, value_of, walks, whole

# Event 0 and event 1 wait for each other, event 2 waits for event 1 and for itself, event 3 waits for nobody,
# and event 4 waits for event 3.
FIVE = [
    whole(None, 3, None, None, None),
    whole(2, None, None, None, None),
    whole(None, 1, 5, None, None),
    whole(None, None, None, None, None),
    [None, None, None, (1, 2), None],
]


def slow_round(work, vector):
    """The next round, worked out another way."""
    found = []
    for row in work:
        sums = [value_of(m) + value_of(x) for m, x in zip(row, vector) if m is not None and x is not None]
        found.append(pair(max(sums, default=None)))
    return found


class Check(unittest.TestCase):
    def test_valid_sizes(self):
        for size in range(1, 13):
            for work in (idle(size), ring(size, (-3, 2)), [[None] * size for _ in range(size)]):
                self.assertIsNone(check_call(self, check_work, work))

    def test_valid_moments(self):
        for moment in (
            None, (0, 1), (1, 1), (-1, 1), (1, 2), (-7, 3), (1000000, 1), (-1000000, 1), (1, 1000000),
            (-1, 1000000), (999999, 1000000), (-1000000, 999999),
        ):
            self.assertIsNone(check_work([[moment]]), moment)
            self.assertIsNone(check_work([whole(1, 1), [None, moment]]), moment)

    def test_bad_moments(self):
        for moment in (
            (1000001, 1), (-1000001, 1), (1, 1000001), (-1, 1000001), (1000001, 1000002), (10 ** 40, 1),
            (1, 10 ** 40), (2, 4), (-2, 4), (0, 2), (5, 5), (-5, 5), (1000000, 1000000),
            (1, 0), (0, 0), (-1, 0), (1, -1), (0, -1), (-1, -2), (1, -1000001), (1, -2), (2, 0),
        ):
            check_refused(self, BadWork, check_work, [[moment]])
            for i in range(2):
                for j in range(2):
                    work = [whole(1, 1), whole(None, 1)]
                    work[i][j] = moment
                    check_refused(self, BadWork, check_work, work)

    def test_bad_sizes(self):
        check_refused(self, BadWork, check_work, [])
        for size in (13, 14, 40):
            check_refused(self, BadWork, check_work, idle(size))

    def test_bad_rows(self):
        for work in (
            [[]], [whole(1, 2)], [[], []], [whole(1), whole(1)], [whole(1, 2), whole(1)], [whole(1), whole(1, 2)],
            [whole(1, 2), whole(1, 2, 3)], [whole(1, 2, 3), whole(1, 2, 3)], [whole(1, 2), []],
            [whole(1, 2), whole(1, 2), whole(1, 2)], [[None] * 12] * 11, [[None] * 12] * 13,
        ):
            check_refused(self, BadWork, check_work, work)


class Rounds(unittest.TestCase):
    def test_next_round_by_hand(self):
        work = [whole(2, None), whole(1, 5)]
        self.assertEqual(check_call(self, next_round, work, whole(10, 0)), whole(12, 11))
        self.assertEqual(check_call(self, next_round, work, whole(0, 10)), whole(2, 15))
        self.assertEqual(next_round(work, whole(None, 3)), whole(None, 8))
        self.assertEqual(next_round(work, whole(None, None)), whole(None, None))
        self.assertEqual(next_round([[(1, 3)]], [(1, 6)]), [(1, 2)])

    def test_row_without_a_moment(self):
        self.assertEqual(check_call(self, next_round, FIVE, whole(0, 0, 0, 0, 0)), whole(3, 2, 5, None) + [(1, 2)])
        after = check_call(self, round_after, FIVE, whole(0, 0, 0, 0, 0), 2)
        self.assertEqual(after, whole(5, 5, 10, None, None))

    def test_next_round_of_samples(self):
        samples = Samples(1)
        for work in samples.works(60, 7):
            vector = samples.vector(len(work), 2)
            found = check_call(self, next_round, work, vector)
            self.assertIs(type(found), list)
            for moment in found:
                check_plain(self, moment)
            self.assertEqual(found, slow_round(work, vector))

    def test_round_after_is_step_by_step(self):
        samples = Samples(2)
        for work in samples.works(24, 5):
            vector = samples.vector(len(work), 2)
            expected = list(vector)
            for steps in range(20):
                self.assertEqual(check_call(self, round_after, work, vector, steps), expected)
                expected = slow_round(work, expected)

    def test_no_steps_give_a_new_equal_list(self):
        for vector in (whole(1), whole(3, None, -2)):
            work = [[None] * len(vector) for _ in vector]
            found = check_call(self, round_after, work, vector, 0)
            self.assertEqual(found, vector)
            self.assertIsNot(round_after(work, vector, 0), vector)

    def test_many_steps(self):
        self.assertEqual(round_after([[(1, 3)]], [(1, 2)], 1000), [(2003, 6)])
        self.assertEqual(round_after(ring(3, (1, 1)), whole(0, 10, 20), 3001), whole(3021, 3001, 3011))
        self.assertEqual(round_after([whole(1, 0), whole(0, None)], whole(0, 0), 500), whole(500, 499))
        self.assertEqual(round_after([whole(None, 1), whole(None, None)], whole(0, 0), 999), whole(None, None))

    def test_negative_steps_are_refused(self):
        for steps in (-1, -2, -1000):
            check_refused(self, OutOfRange, round_after, [whole(1)], whole(0), steps)

    def test_sizes_and_numbers_beyond_valid_works(self):
        size = 15
        found = next_round(ring(size, (10 ** 9, 7)), whole(*range(size)))
        self.assertEqual(found, [pair(value_of((10 ** 9, 7)) + (i - 1) % size) for i in range(size)])
        self.assertEqual(len(product(idle(size), idle(size))), size)


class Products(unittest.TestCase):
    def test_product_by_hand(self):
        first = [whole(1, 2), whole(None, 3)]
        second = [whole(10, None), whole(0, 4)]
        self.assertEqual(check_call(self, product, first, second), [whole(11, 6), whole(3, 7)])
        self.assertEqual(check_call(self, product, second, first), [whole(11, 12), whole(1, 7)])

    def test_product_of_samples(self):
        samples = Samples(3)
        for first in samples.works(40, 5):
            size = len(first)
            second = samples.work(size, 4)
            found = check_call(self, product, first, second)
            for j in range(size):
                column = [row[j] for row in second]
                self.assertEqual([row[j] for row in found], slow_round(first, column))
            for row in found:
                for moment in row:
                    check_plain(self, moment)

    def test_numbers_beyond_valid_works(self):
        self.assertEqual(product([[(1000000, 1)]], [[(1000000, 1)]]), [[(2000000, 1)]])
        self.assertEqual(product([[(1, 1000000)]], [[(1, 999999)]]), [[(1999999, 999999000000)]])

    def test_later_work(self):
        first = [whole(1, None), whole(None, 4)]
        second = [whole(0, -5), [None, (9, 2)]]
        expected = [whole(1, -5), [None, (9, 2)]]
        self.assertEqual(check_call(self, later_work, first, second), expected)
        self.assertEqual(check_call(self, later_work, second, first), expected)

    def test_one_work_twice(self):
        work = [whole(1, None), whole(2, 3)]
        self.assertEqual(check_call(self, later_work, work, work), work)
        self.assertEqual(check_call(self, product, work, work), [whole(2, None), whole(5, 6)])

    def test_rows_that_are_one_list(self):
        row = whole(1, 2)
        work = [row, row]
        self.assertEqual(check_call(self, later_work, work, work), work)
        self.assertEqual(check_call(self, product, work, work), [whole(3, 4), whole(3, 4)])
        self.assertEqual(check_call(self, power, work, 1), work)

    def test_different_sizes_are_refused(self):
        for one, other in ((1, 2), (2, 3), (3, 1), (12, 13)):
            for function in (product, later_work):
                check_refused(self, OutOfRange, function, idle(one), idle(other))
                check_refused(self, OutOfRange, function, idle(other), idle(one))

    def test_idle(self):
        self.assertEqual(check_call(self, idle, 1), [whole(0)])
        self.assertEqual(check_call(self, idle, 3), [whole(0, None, None), whole(None, 0, None), whole(None, None, 0)])
        for size in (2, 12, 20):
            found = check_call(self, idle, size)
            self.assertEqual([len(row) for row in found], [size] * size)
            self.assertEqual(product(found, ring(size, (5, 3))), ring(size, (5, 3)))
            self.assertEqual(product(ring(size, (5, 3)), found), ring(size, (5, 3)))

    def test_idle_below_1_is_refused(self):
        for size in (0, -1, -12):
            check_refused(self, OutOfRange, idle, size)

    def test_power_0_is_idle(self):
        for work in (FIVE, [[None]], [whole(7)], ring(4, (1, 2))):
            self.assertEqual(check_call(self, power, work, 0), idle(len(work)))

    def test_power_1_is_a_new_equal_work(self):
        self.assertEqual(check_call(self, power, FIVE, 1), FIVE)

    def test_power_is_a_product_more_each_time(self):
        for work in Samples(4).works(20, 4):
            expected = idle(len(work))
            for exponent in range(12):
                self.assertEqual(check_call(self, power, work, exponent), expected)
                expected = product(expected, work)

    def test_high_powers(self):
        self.assertEqual(power([[(1, 2)]], 1001), [[(1001, 2)]])
        self.assertEqual(power(ring(5, (1, 1)), 1000), [
            [(1000, 1) if i == j else None for j in range(5)] for i in range(5)
        ])

    def test_negative_exponent_is_refused(self):
        for exponent in (-1, -2, -100):
            check_refused(self, OutOfRange, power, FIVE, exponent)

    def test_power_has_the_greatest_times_of_walks(self):
        for work in Samples(5).works(24, 3) + [FIVE]:
            for length in range(5):
                self.assertEqual(power(work, length), greatest_times(work, length))


class Walks(unittest.TestCase):
    def test_one_event(self):
        for event in range(5):
            found = check_call(self, walk_time, FIVE, [event])
            self.assertEqual(found, (0, 1))
            check_plain(self, found)

    def test_walks_by_hand(self):
        for walk, expected in (
            ([0, 1], (2, 1)), ([1, 0], (3, 1)), ([0, 1, 0], (5, 1)), ([0, 1, 0, 1, 2], (8, 1)),
            ([2, 2, 2], (10, 1)), ([1, 2, 2], (6, 1)), ([3, 4], (1, 2)),
        ):
            self.assertEqual(check_call(self, walk_time, FIVE, walk), expected, walk)

    def test_times_that_cancel(self):
        work = [[None, (1, 2)], [(-1, 2), None]]
        self.assertEqual(walk_time(work, [0, 1]), (-1, 2))
        self.assertEqual(walk_time(work, [0, 1, 0]), (0, 1))
        self.assertEqual(walk_time([[(0, 1)]], [0, 0, 0]), (0, 1))

    def test_no_walks(self):
        for walk in ([0, 2], [2, 1], [4, 3], [3, 3], [0, 0], [1, 1], [0, 1, 1], [0, 0, 1], [0, 1, 2, 0], [2, 2, 1, 0]):
            self.assertIsNone(check_call(self, walk_time, FIVE, walk), walk)

    def test_integers_out_of_range(self):
        full = [whole(1, 2), whole(3, 4)]
        for walk in (
            [2], [-1], [-2], [-3], [10 ** 30], [0, 2], [2, 0], [0, -1], [-1, 0], [1, -2, 1], [0, 1, 2], [0, 1, -1],
            [-1, -1], [0, 7, 1], [-2, 0, 1],
        ):
            self.assertIsNone(check_call(self, walk_time, full, walk), walk)

    def test_all_short_lists(self):
        for work in Samples(6).works(16, 3):
            for length in range(4):
                found = walks(work, length)
                lists = [[]]
                for _ in range(length + 1):
                    lists = [one + [event] for one in lists for event in range(-1, len(work) + 1)]
                for walk in lists:
                    time = walk_time(work, walk)
                    self.assertEqual(time is not None, walk in found, walk)
                    if walk in found:
                        check_plain(self, time)
                        self.assertEqual(value_of(time), slow_time(work, walk))


class Circuits(unittest.TestCase):
    FULL = [whole(1, 2, 3), whole(4, 5, 6), whole(7, 8, 9)]

    def test_circuits(self):
        for walk in ([0, 0], [2, 2], [0, 1, 0], [1, 2, 1], [0, 2, 0], [0, 1, 2, 0], [0, 2, 1, 0]):
            self.assertIs(check_call(self, is_circuit, self.FULL, walk), True, walk)

    def test_empty_list_and_one_event(self):
        for walk in ([], [0], [1], [2], [3], [-1]):
            self.assertIs(check_call(self, is_circuit, self.FULL, walk), False, walk)

    def test_first_event_is_not_the_least(self):
        for walk in ([1, 0, 1], [2, 0, 2], [2, 1, 2], [1, 2, 0, 1], [2, 0, 1, 2], [1, 0, 2, 1]):
            self.assertIs(is_circuit(self.FULL, walk), False, walk)

    def test_event_that_is_passed_twice(self):
        for walk in ([0, 0, 0], [0, 1, 1, 0], [0, 1, 0, 1, 0], [0, 1, 2, 1, 0], [0, 0, 1, 0], [0, 1, 0, 2, 0]):
            self.assertIs(is_circuit(self.FULL, walk), False, walk)

    def test_not_closed(self):
        for walk in ([0, 1], [0, 1, 2], [0, 2], [1, 2], [0, 1, 2, 1]):
            self.assertIs(is_circuit(self.FULL, walk), False, walk)

    def test_no_walk(self):
        one_way = [whole(None, 1, None), whole(None, None, 1), whole(1, None, None)]
        self.assertIs(is_circuit(one_way, [0, 2, 1, 0]), True)
        for walk in ([0, 1, 2, 0], [0, 0], [0, 1, 0], [0, 2, 0]):
            self.assertIs(is_circuit(one_way, walk), False, walk)
        self.assertIs(is_circuit(FIVE, [0, 1, 0]), True)
        self.assertIs(is_circuit(FIVE, [2, 2]), True)
        self.assertIs(is_circuit(FIVE, [3, 3]), False)
        self.assertIs(is_circuit(FIVE, [3, 4, 3]), False)

    def test_integers_out_of_range(self):
        for walk in ([-1, -1], [3, 3], [-1, 0, -1], [0, 3, 0], [0, -1, 0], [-3, -2, -3], [-1, 2, -1], [0, -2, 1, 0]):
            self.assertIs(is_circuit(self.FULL, walk), False, walk)

    def test_circuit_of_time_0(self):
        self.assertIs(is_circuit([whole(0)], [0, 0]), True)
        self.assertIs(is_circuit([whole(None, 1), whole(-1, None)], [0, 1, 0]), True)


class Classes(unittest.TestCase):
    def test_reached_from(self):
        for event, expected in ((0, [0, 1, 2]), (1, [0, 1, 2]), (2, [2]), (3, [3, 4]), (4, [4])):
            self.assertEqual(check_call(self, reached_from, FIVE, event), expected)

    def test_an_event_reaches_itself_without_a_wait(self):
        self.assertEqual(reached_from([[None]], 0), [0])
        self.assertEqual(reached_from([[None] * 3 for _ in range(3)], 1), [1])

    def test_long_ways_are_followed_to_their_end(self):
        for size in (2, 7, 12, 30):
            for event in (0, size // 2, size - 1):
                self.assertEqual(reached_from(ring(size, (1, 1)), event), list(range(size)))
        falling = [whole(None, 1, None), whole(None, None, 1), whole(None, None, None)]
        self.assertEqual([reached_from(falling, event) for event in range(3)], [[0], [0, 1], [0, 1, 2]])

    def test_moments_of_0_and_below_are_waits(self):
        work = [whole(None, 0), whole(-5, None)]
        self.assertEqual(reached_from(work, 0), [0, 1])
        self.assertEqual(classes(work), [[0, 1]])

    def test_events_out_of_range_are_refused(self):
        for event in (5, 6, 100, -1, -2, -5, -6, 10 ** 30):
            check_refused(self, OutOfRange, reached_from, FIVE, event)
        check_refused(self, OutOfRange, reached_from, [[None]], 1)
        check_refused(self, OutOfRange, reached_from, [[None]], -1)

    def test_reached_from_agrees_with_walks(self):
        for work in Samples(7).works(40, 4):
            size = len(work)
            for event in range(size):
                ends = {walk[-1] for length in range(size) for walk in walks(work, length) if walk[0] == event}
                self.assertEqual(reached_from(work, event), sorted(ends))

    def test_classes_by_hand(self):
        self.assertEqual(check_call(self, classes, FIVE), [[0, 1], [2], [3], [4]])
        self.assertEqual(check_call(self, classes, [[None]]), [[0]])
        self.assertEqual(check_call(self, classes, ring(4, (1, 1))), [[0, 1, 2, 3]])
        self.assertEqual(check_call(self, classes, idle(3)), [[0], [1], [2]])

    def test_classes_in_the_order_of_their_least_events(self):
        # 0 and 3 wait for each other, 1 and 4 too, and 2 stands alone; the waits between classes go back and forth.
        work = [
            whole(None, None, 1, 1, None),
            whole(1, None, None, None, 1),
            whole(None, None, None, None, None),
            whole(1, None, None, None, None),
            whole(None, 1, 1, None, None),
        ]
        self.assertEqual(check_call(self, classes, work), [[0, 3], [1, 4], [2]])
        self.assertEqual(classes([list(column) for column in zip(*work)]), [[0, 3], [1, 4], [2]])

    def test_classes_agree_with_reached_from(self):
        for work in Samples(8).works(60, 6):
            size = len(work)
            reached = [reached_from(work, event) for event in range(size)]
            groups = {tuple(j for j in range(size) if j in reached[i] and i in reached[j]) for i in range(size)}
            self.assertEqual(check_call(self, classes, work), sorted(list(group) for group in groups))

    def test_is_active(self):
        for members, expected in (([0, 1], True), ([2], True), ([3], False), ([4], False)):
            self.assertIs(check_call(self, is_active, FIVE, members), expected, members)
        self.assertIs(is_active([[None]], [0]), False)
        self.assertIs(is_active([whole(0)], [0]), True)
        self.assertIs(is_active([whole(-3)], [0]), True)
        self.assertIs(is_active(ring(12, (1, 1)), list(range(12))), True)

    def test_is_active_exactly_if_there_is_a_circuit(self):
        for work in Samples(9).works(40, 4):
            for members in classes(work):
                circuits = [walk for length in range(1, len(work) + 1) for walk in walks(work, length)
                            if walk[0] in members and is_circuit(work, walk)]
                self.assertIs(is_active(work, members), len(circuits) > 0)


class Interface(unittest.TestCase):
    def test_names_and_arguments(self):
        expected = {
            "check_work": ["work"], "next_round": ["work", "vector"], "round_after": ["work", "vector", "steps"],
            "product": ["first", "second"], "later_work": ["first", "second"], "idle": ["size"],
            "power": ["work", "exponent"], "walk_time": ["work", "walk"], "is_circuit": ["work", "walk"],
            "reached_from": ["work", "event"], "classes": ["work"], "is_active": ["work", "members"],
        }
        for name, arguments in expected.items():
            function = getattr(works, name)
            self.assertEqual(list(inspect.signature(function).parameters), arguments, name)
            self.assertEqual(function.__module__, "latelaw.works")


if __name__ == "__main__":
    unittest.main()
