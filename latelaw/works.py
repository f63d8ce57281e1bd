"""Works: which event waits for which one, and for how long."""

from latelaw.errors import BadWork, OutOfRange
from latelaw.moments import is_fraction, later_vector, latest, minus, plus

MOST_EVENTS = 12
GREATEST_PART = 1000000


def check_work(work):
    """Return None if the work is valid, and raise BadWork otherwise."""
    size = len(work)
    if size < 1 or size > MOST_EVENTS:
        raise BadWork("a work has from 1 to 12 rows")
    for row in work:
        if len(row) != size:
            raise BadWork("each row of a work has as many moments as the work has rows")
        for moment in row:
            if moment is not None and not _is_valid_fraction(moment):
                raise BadWork("a moment is not a fraction in lowest terms, or its parts are too great")


def _is_valid_fraction(moment):
    top, low = moment
    return abs(top) <= GREATEST_PART and low <= GREATEST_PART and is_fraction(moment)


def has_empty_row(work):
    """Return True if an event of the work waits for no event."""
    return any(latest(row) is None for row in work)


def next_round(work, vector):
    """Return the vector of the round after that of the given vector."""
    return [_latest_sum(row, vector) for row in work]


def _latest_sum(firsts, seconds):
    return latest([plus(first, second) for first, second in zip(firsts, seconds)])


def round_after(work, vector, steps):
    """Return the vector of the round after so many steps."""
    if steps < 0:
        raise OutOfRange("the number of steps is negative")
    reached = list(vector)
    leap = work
    left = steps
    # One step of a product is a step of each factor, so doubled leaps take the place of many steps.
    while left > 0:
        if left & 1 == 1:
            reached = next_round(leap, reached)
        left = left >> 1
        if left > 0:
            leap = product(leap, leap)
    return reached


def product(first, second):
    """Return the product of two works of the same size."""
    _check_same_size(first, second)
    columns = [list(column) for column in zip(*second)]
    return [[_latest_sum(row, column) for column in columns] for row in first]


def later_work(first, second):
    """Return the work with the later moment of two works at each place."""
    _check_same_size(first, second)
    return [later_vector(one, other) for one, other in zip(first, second)]


def _check_same_size(first, second):
    if len(first) != len(second):
        raise OutOfRange("the works have different sizes")


def lessened(work, amount):
    """Return the work with a fraction subtracted from each of its moments."""
    lessening = minus((0, 1), amount)
    return [[plus(moment, lessening) for moment in row] for row in work]


def idle(size):
    """Return the idle work of a size, which changes no vector."""
    if size < 1:
        raise OutOfRange("the size of a work is below 1")
    return [[_idle_moment(i, j) for j in range(size)] for i in range(size)]


def _idle_moment(i, j):
    if i == j:
        return (0, 1)
    return None


def power(work, exponent):
    """Return the power of a work."""
    if exponent < 0:
        raise OutOfRange("the exponent is negative")
    reached = idle(len(work))
    factor = work
    left = exponent
    # Powers of one work can be multiplied in any order, so squares take the place of many products.
    while left > 0:
        if left & 1 == 1:
            reached = product(reached, factor)
        left = left >> 1
        if left > 0:
            factor = product(factor, factor)
    return reached


def walk_time(work, walk):
    """Return the time of a walk, or None if the list is not a walk."""
    for event in walk:
        if not _is_event(work, event):
            return None
    time = (0, 1)
    for k in range(1, len(walk)):
        # A step that does not exist has the moment None, which no later sum loses.
        time = plus(time, work[walk[k]][walk[k - 1]])
    return time


def _is_event(work, event):
    # Python would take a negative index from the end of the list.
    return 0 <= event < len(work)


def is_circuit(work, walk):
    """Return True if a list of integers is a circuit in normal form."""
    if len(walk) < 2 or walk[0] != walk[-1]:
        return False
    events = walk[:-1]
    if walk[0] != min(events) or len(set(events)) != len(events):
        return False
    return walk_time(work, walk) is not None


def reached_from(work, event):
    """Return the ascending list of the events that an event reaches."""
    if not _is_event(work, event):
        raise OutOfRange("there is no such event")
    found = {event: True}
    waiting = [event]
    while waiting:
        source = waiting.pop()
        for target in range(len(work)):
            if work[target][source] is not None and target not in found:
                found[target] = True
                waiting.append(target)
    return sorted(found)


def classes(work):
    """Return the classes as ascending lists, in the order of their least events."""
    reached = [reached_from(work, event) for event in range(len(work))]
    found = []
    for event in range(len(work)):
        members = [other for other in reached[event] if event in reached[other]]
        # A class is met again at each of its events, and is taken at the least one only.
        if members[0] == event:
            found.append(members)
    return found


def is_active(work, members):
    """Return True if a class has a circuit."""
    if len(members) > 1:
        return True
    return work[members[0]][members[0]] is not None
