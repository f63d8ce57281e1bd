"""What several tests share: sample works, a slow second opinion, and checks of what calls leave alone."""

import copy
from fractions import Fraction


def whole(*numbers):
    """A vector (or row) of whole moments; None stays None."""
    return [None if number is None else (number, 1) for number in numbers]


def sample_fractions():
    values = {Fraction(top, low) for top in range(-4, 5) for low in range(1, 5)}
    return [pair(value) for value in sorted(values)]


def pair(value):
    """The program's form of a Fraction or None."""
    if value is None:
        return None
    return (value.numerator, value.denominator)


def value_of(moment):
    """The Fraction of the program's form, None for None."""
    if moment is None:
        return None
    return Fraction(moment[0], moment[1])


class Samples:
    """A fixed sequence of works and vectors, the same in every run of the tests."""

    def __init__(self, seed):
        self.state = seed

    def number(self, many):
        self.state = (self.state * 6364136223846793005 + 1442695040888963407) % 2 ** 64
        return (self.state >> 33) % many

    def moment(self, gaps):
        """A moment; gaps of ten are None."""
        if self.number(10) < gaps:
            return None
        return pair(Fraction(self.number(21) - 10, 1 + self.number(6)))

    def vector(self, size, gaps):
        return [self.moment(gaps) for _ in range(size)]

    def work(self, size, gaps):
        return [self.vector(size, gaps) for _ in range(size)]

    def works(self, many, most):
        """Works of all sizes up to most, from full ones to ones with many gaps."""
        return [self.work(1 + k % most, (0, 3, 6, 8)[k % 4]) for k in range(many)]


def walks(work, length):
    """All walks of a length, found step by step."""
    found = [[event] for event in range(len(work))]
    for _ in range(length):
        found = [walk + [i] for walk in found for i in range(len(work)) if work[i][walk[-1]] is not None]
    return found


def short_walks(work):
    """All walks of a length below the number of events."""
    found = [[event] for event in range(len(work))]
    last = found
    for _ in work[1:]:
        last = [walk + [i] for walk in last for i in range(len(work)) if work[i][walk[-1]] is not None]
        found = found + last
    return found


def slow_time(work, walk):
    return sum((value_of(work[i][j]) for j, i in zip(walk, walk[1:])), Fraction(0))


def slow_mean(work, circuit):
    return slow_time(work, circuit) / (len(circuit) - 1)


def all_circuits(work):
    """All circuits in normal form, found as short walks that can be closed."""
    return [
        walk + [walk[0]] for walk in short_walks(work)
        if walk[0] == min(walk) and len(set(walk)) == len(walk) and work[walk[0]][walk[-1]] is not None
    ]


def slow_rates(work):
    """The rates as Fractions or None, from all circuits and all short walks."""
    circuits = all_circuits(work)
    reached = {(walk[0], walk[-1]) for walk in short_walks(work)}
    return [
        max((slow_mean(work, one) for one in circuits if (one[0], event) in reached), default=None)
        for event in range(len(work))
    ]


def ring(size, moment):
    """A work in which each event waits for the one before it, and event 0 for the last one."""
    return [[moment if j == (i - 1) % size else None for j in range(size)] for i in range(size)]


def beside(*works):
    """The work of several works that do not wait for each other."""
    size = sum(len(work) for work in works)
    found = []
    for work in works:
        left = [None] * len(found)
        found.extend(left + row + [None] * (size - len(left) - len(row)) for row in copy.deepcopy(list(work)))
    return found


def greatest_times(work, length):
    """The greatest time of the walks of a length for each pair of events, at [to][from]."""
    size = len(work)
    found = [[None] * size for _ in range(size)]
    for walk in walks(work, length):
        time = slow_time(work, walk)
        best = found[walk[-1]][walk[0]]
        if best is None or time > best:
            found[walk[-1]][walk[0]] = time
    return [[pair(time) for time in row] for row in found]


def lists_in(value):
    """All lists at any place of a value, each place for itself."""
    if not isinstance(value, (list, tuple)):
        return []
    found = [value] if isinstance(value, list) else []
    for item in value:
        found.extend(lists_in(item))
    return found


def spoil(value):
    for found in lists_in(value):
        found[:] = ["spoiled"]


def check_call(test, function, *arguments):
    """Call a function, check what point 2 promises about lists, and return its answer."""
    kept = copy.deepcopy(arguments)
    first = function(*arguments)
    expected = copy.deepcopy(first)
    test.assertEqual(arguments, kept, "an argument was modified")
    places = [id(found) for found in lists_in(first)]
    test.assertEqual(len(places), len(set(places)), "a list occurs at two places")
    passed = [id(found) for found in lists_in(arguments)]
    test.assertFalse(set(places) & set(passed), "a passed list was returned")
    second = function(*arguments)
    test.assertEqual(second, expected, "a second call gave another answer")
    spoil(first)
    test.assertEqual(second, expected, "two answers share a list")
    test.assertEqual(arguments, kept, "an answer shares a list with an argument")
    third = function(*copy.deepcopy(kept))
    test.assertEqual(third, expected, "a change to an answer had an effect on a later one")
    doomed = copy.deepcopy(kept)
    last = function(*doomed)
    spoil(doomed)
    test.assertEqual(last, expected, "a change to an argument had an effect on the answer")
    return expected


def check_refused(test, error, function, *arguments):
    """Check that a call raises exactly this error and modifies nothing."""
    kept = copy.deepcopy(arguments)
    with test.assertRaises(error) as caught:
        function(*arguments)
    test.assertIs(type(caught.exception), error)
    test.assertEqual(arguments, kept)


def check_plain(test, moment):
    """Check that a moment has the form of point 2."""
    if moment is None:
        return
    test.assertIs(type(moment), tuple)
    test.assertEqual([type(part) for part in moment], [int, int])
    test.assertGreaterEqual(moment[1], 1)
    test.assertEqual(moment, pair(Fraction(moment[0], moment[1])))
