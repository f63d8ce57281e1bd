"""Points 1 to 4: fractions, moments and vectors."""

import inspect
import unittest
from fractions import Fraction
from itertools import permutations

from latelaw import moments
from latelaw.errors import OutOfRange
from latelaw.moments import at_most, earliest, fraction, is_fraction, is_less, later, later_vector, latest
from latelaw.moments import minus, over, plus, times
from tests.helpers import check_call, check_plain, check_refused, pair, sample_fractions, value_of, whole

HUGE = 10 ** 40


class Fractions(unittest.TestCase):
    def test_lowest_terms(self):
        cases = [
            (1, 2, (1, 2)), (2, 4, (1, 2)), (6, 3, (2, 1)), (5, 5, (1, 1)), (7, 1, (7, 1)),
            (-2, 4, (-1, 2)), (2, -4, (-1, 2)), (-2, -4, (1, 2)), (5, -5, (-1, 1)), (-5, -5, (1, 1)),
            (0, 1, (0, 1)), (0, 9, (0, 1)), (0, -9, (0, 1)), (0, -1, (0, 1)), (12, 18, (2, 3)), (1, -1, (-1, 1)),
        ]
        for top, low, expected in cases:
            self.assertEqual(fraction(top, low), expected, (top, low))

    def test_all_small_ones(self):
        for top in range(-20, 21):
            for low in range(-20, 21):
                if low != 0:
                    found = fraction(top, low)
                    check_plain(self, found)
                    self.assertEqual(found, pair(Fraction(top, low)))

    def test_very_large_parts_are_exact(self):
        self.assertEqual(fraction(6 * HUGE, 4 * HUGE), (3, 2))
        self.assertEqual(fraction(HUGE + 1, -HUGE), (-HUGE - 1, HUGE))
        self.assertEqual(fraction(-HUGE, HUGE), (-1, 1))
        self.assertEqual(fraction(3 * HUGE, -3), (-HUGE, 1))
        self.assertEqual(fraction(2 ** 200, 2 ** 199 * 3), (2, 3))

    def test_low_0_is_refused(self):
        for top in (0, 1, -1, 7, HUGE):
            check_refused(self, OutOfRange, fraction, top, 0)


class Sums(unittest.TestCase):
    def test_against_exact_fractions(self):
        samples = sample_fractions() + [(HUGE + 1, HUGE), (-HUGE, 7), (1, HUGE)]
        for first in samples:
            for second in samples:
                one, other = value_of(first), value_of(second)
                found = [plus(first, second), minus(first, second), times(first, second)]
                wanted = [one + other, one - other, one * other]
                if other != 0:
                    found.append(over(first, second))
                    wanted.append(one / other)
                for moment in found:
                    check_plain(self, moment)
                self.assertEqual(found, [pair(value) for value in wanted], (first, second))

    def test_some_by_hand(self):
        self.assertEqual(plus((1, 2), (1, 3)), (5, 6))
        self.assertEqual(plus((1, 2), (-1, 2)), (0, 1))
        self.assertEqual(minus((1, 2), (1, 3)), (1, 6))
        self.assertEqual(minus((1, 3), (1, 2)), (-1, 6))
        self.assertEqual(times((2, 3), (-3, 4)), (-1, 2))
        self.assertEqual(over((1, 2), (-1, 4)), (-2, 1))
        self.assertEqual(over((0, 1), (-5, 3)), (0, 1))

    def test_sum_with_none_is_none(self):
        for moment in ((0, 1), (3, 2), (-3, 2), None):
            self.assertIsNone(plus(None, moment))
            self.assertIsNone(plus(moment, None))

    def test_over_0_is_refused(self):
        for first in ((0, 1), (1, 1), (-7, 3)):
            check_refused(self, OutOfRange, over, first, (0, 1))


class Order(unittest.TestCase):
    def test_less_by_value(self):
        samples = sample_fractions()
        for first in samples:
            for second in samples:
                self.assertIs(is_less(first, second), value_of(first) < value_of(second), (first, second))

    def test_nearly_equal_large_ones(self):
        low, high = (HUGE - 1, HUGE), (HUGE, HUGE + 1)
        self.assertIs(is_less(low, high), True)
        self.assertIs(is_less(high, low), False)
        self.assertEqual(later(low, high), high)
        self.assertEqual(latest([high, low]), high)

    def test_none_is_before_all_others(self):
        for moment in ((0, 1), (-HUGE, 1), (-1, HUGE), (5, 2)):
            self.assertIs(is_less(None, moment), True)
            self.assertIs(is_less(moment, None), False)
            self.assertEqual(later(None, moment), moment)
            self.assertEqual(later(moment, None), moment)
        self.assertIs(is_less(None, None), False)
        self.assertIsNone(later(None, None))

    def test_later_one_is_the_greater_one(self):
        samples = sample_fractions()
        for first in samples:
            for second in samples:
                found = later(first, second)
                self.assertEqual(found, pair(max(value_of(first), value_of(second))))

    def test_latest(self):
        self.assertIsNone(latest([]))
        self.assertIsNone(latest([None]))
        self.assertIsNone(latest([None, None]))
        self.assertEqual(latest([(-3, 2)]), (-3, 2))
        for order in permutations([None, (-7, 2), (-3, 1), (-10, 3)]):
            self.assertEqual(check_call(self, latest, list(order)), (-3, 1))
        for order in permutations([(1, 2), (2, 3), (3, 5), (2, 3)]):
            self.assertEqual(latest(list(order)), (2, 3))


class Helpers(unittest.TestCase):
    """What the modules share beyond the interface."""

    def test_is_fraction(self):
        for good in ((0, 1), (1, 1), (-1, 1), (3, 2), (-3, 2), (HUGE + 1, HUGE)):
            self.assertIs(check_call(self, is_fraction, good), True, good)
        for bad in ((0, 2), (2, 2), (4, 6), (-4, 6), (1, 0), (0, 0), (0, -1), (1, -1), (3, -2), (-3, -2), (HUGE, HUGE)):
            self.assertIs(check_call(self, is_fraction, bad), False, bad)

    def test_earliest(self):
        self.assertEqual(check_call(self, earliest, [(1, 2)]), (1, 2))
        self.assertIsNone(check_call(self, earliest, [None]))
        for order in permutations([(2, 3), (1, 2), (-1, 3), (-1, 2)]):
            self.assertEqual(earliest(list(order)), (-1, 2))
        for order in permutations([(2, 3), None, (-100, 1), None]):
            self.assertIsNone(earliest(list(order)))


class Vectors(unittest.TestCase):
    def test_later_vector(self):
        first = [(1, 2), None, (-1, 1), None, (2, 1)]
        second = [(1, 3), (-9, 1), None, None, (2, 1)]
        expected = [(1, 2), (-9, 1), (-1, 1), None, (2, 1)]
        self.assertEqual(check_call(self, later_vector, first, second), expected)
        self.assertEqual(check_call(self, later_vector, second, first), expected)
        self.assertIs(type(later_vector(first, second)), list)

    def test_later_vector_of_one_list_twice_is_new(self):
        vector = whole(1, None, 2)
        found = later_vector(vector, vector)
        self.assertEqual(found, vector)
        self.assertIsNot(found, vector)

    def test_at_most(self):
        cases = [
            (whole(1, 2), whole(1, 2), True),
            (whole(1, 2), whole(1, 3), True),
            (whole(1, 2), whole(2, 1), False),
            (whole(3, 2), whole(2, 9), False),
            ([(1, 3)], [(1, 2)], True),
            ([(1, 2)], [(1, 3)], False),
            ([(2, 3)], [(3, 4)], True),
            (whole(None), whole(-100), True),
            (whole(-100), whole(None), False),
            (whole(None), whole(None), True),
            (whole(0, None, 1), whole(0, 0, 0), False),
        ]
        for first, second, expected in cases:
            self.assertIs(check_call(self, at_most, first, second), expected, (first, second))

    def test_length_0(self):
        self.assertEqual(check_call(self, later_vector, [], []), [])
        self.assertIs(at_most([], []), True)

    def test_different_lengths_are_refused(self):
        for first, second in (([], whole(1)), (whole(1), whole(1, 2)), (whole(5, 0, 0), whole(1, 2))):
            for function in (later_vector, at_most):
                check_refused(self, OutOfRange, function, first, second)
                check_refused(self, OutOfRange, function, second, first)


class Interface(unittest.TestCase):
    def test_names_and_arguments(self):
        pairs = ("plus", "minus", "times", "over", "is_less", "later", "later_vector", "at_most")
        expected = {name: ["first", "second"] for name in pairs}
        expected["fraction"] = ["top", "low"]
        expected["latest"] = ["moments"]
        for name, arguments in expected.items():
            function = getattr(moments, name)
            self.assertEqual(list(inspect.signature(function).parameters), arguments, name)
            self.assertEqual(function.__module__, "latelaw.moments")


if __name__ == "__main__":
    unittest.main()
