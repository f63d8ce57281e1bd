"""The desk: answers commands about a work."""

from latelaw.errors import BadCommand
from latelaw.games import EARLY, LATE, game_paper
from latelaw.moments import fraction, is_less
from latelaw.rates import all_rates, rate_paper
from latelaw.runs import repeating
from latelaw.timetables import end_of_delays, least_period, plan
from latelaw.works import check_work, has_empty_row, round_after

MOST_DIGITS = 6
MOST_STEPS = 1000
NOTHING = "none"


def _answer_rates(work, words):
    _check_count(words, 0)
    return _written_all(all_rates(work))


def _answer_circuit(work, words):
    _check_count(words, 1)
    event = _number(words[0])
    if not 0 <= event < len(work):
        raise BadCommand("there is no such event")
    _, circuits, _ = rate_paper(work)
    if circuits[event] is None:
        return NOTHING
    return _written_circuit(circuits[event])


def _answer_repeat(work, words):
    _check_count(words, len(work))
    start, period = repeating(work, _fractions(words))
    return f"{start} {period}"


def _answer_round(work, words):
    _check_count(words, 1 + len(work))
    steps = _number(words[0])
    if not 0 <= steps <= MOST_STEPS:
        raise BadCommand("the number of steps is below 0 or too great")
    return _written_all(round_after(work, _fractions(words[1:]), steps))


def _answer_least(work, words):
    _check_count(words, 0)
    return _written(least_period(work))


def _answer_plan(work, words):
    _check_count(words, 1)
    moments = plan(work, _fraction_of(words[0]))
    if moments is None:
        return NOTHING
    return _written_all(moments)


def _answer_game(work, words):
    _check_count(words, 1)
    sides = _sides(words[0], len(work))
    if has_empty_row(work):
        return NOTHING
    rates, _, _ = game_paper((work, sides))
    return _written_all(rates)


def _answer_delay(work, words):
    _check_count(words, 1 + len(work))
    period = _fraction_of(words[0])
    delays = _fractions(words[1:])
    if any(is_less(delay, (0, 1)) for delay in delays):
        raise BadCommand("a delay is below 0")
    moments = plan(work, period)
    if moments is None:
        return NOTHING
    kind, told = end_of_delays(work, moments, period, delays)
    if kind == "over":
        return f"over {told}"
    return "forever " + _written_circuit(told)


ACTIONS = {
    "rates": _answer_rates,
    "circuit": _answer_circuit,
    "repeat": _answer_repeat,
    "round": _answer_round,
    "least": _answer_least,
    "plan": _answer_plan,
    "game": _answer_game,
    "delay": _answer_delay,
}


class Desk:
    """A desk that answers commands about one work."""

    def __init__(self, work):
        check_work(work)
        self.work = [list(row) for row in work]

    def ask(self, command):
        """Return the answer to a command."""
        words = command.split(" ")
        if "" in words:
            raise BadCommand("the command is empty, or a word of it is")
        if words[0] not in ACTIONS:
            raise BadCommand("the first word is unknown")
        action = ACTIONS[words[0]]
        return action(self.work, words[1:])


def _check_count(words, count):
    if len(words) != count:
        raise BadCommand("the number of words is wrong")


def _number(word):
    """Return the integer that a word writes."""
    digits = word.removeprefix("-")
    # Python takes signs from outside of ASCII for digits, too.
    if not digits.isascii() or not digits.isdigit() or len(digits) > MOST_DIGITS:
        raise BadCommand("a word is not a number")
    if digits[0] == "0" and word != "0":
        raise BadCommand("a number has a leading zero, or is -0")
    return int(word)


def _fraction_of(word):
    """Return the fraction that a word writes."""
    if "/" not in word:
        return (_number(word), 1)
    top, _, low = word.partition("/")
    parts = _number(low)
    if parts < 1:
        raise BadCommand("the low of a fraction is below 1")
    return fraction(_number(top), parts)


def _fractions(words):
    return [_fraction_of(word) for word in words]


def _sides(word, count):
    """Return the sides that the letters of a word write."""
    if len(word) != count:
        raise BadCommand("there is not one letter for each event")
    return [_side(letter) for letter in word]


def _side(letter):
    if letter == "l":
        return LATE
    if letter == "e":
        return EARLY
    raise BadCommand("a letter is neither l nor e")


def _written(moment):
    if moment is None:
        return NOTHING
    top, low = moment
    if low == 1:
        return str(top)
    return f"{top}/{low}"


def _written_all(moments):
    return " ".join([_written(moment) for moment in moments])


def _written_circuit(circuit):
    return "-".join([str(event) for event in circuit])
