"""Points 24 and 25: the commands of the desk and their answers."""

import copy
import inspect
import unittest
from fractions import Fraction

from latelaw import desk
from latelaw.desk import Desk
from latelaw.errors import BadCommand, BadWork, TooLong
from latelaw.games import game_paper
from latelaw.rates import rate_paper
from latelaw.runs import repeating
from latelaw.timetables import end_of_delays, least_period, plan
from latelaw.works import round_after
from tests.helpers import Samples, beside, pair, ring, spoil, whole

WORK = [whole(2, 5), whole(3, None)]
# Event 0 stands still, event 1 waits for nobody, and event 2 goes on by 1/3 beside event 3.
MIXED_RATES = [
    whole(0, None, None, None), whole(None, None, None, None), [None, (5, 1), None, (1, 6)], [None, None, (1, 2), None],
]
KINDS_OF_WORDS = {"rates": 0, "circuit": 1, "repeat": 2, "round": 3, "least": 0, "plan": 1, "game": 1, "delay": 3}
GOOD = {
    "rates": "rates", "circuit": "circuit 0", "repeat": "repeat 0 0", "round": "round 3 0 0", "least": "least",
    "plan": "plan 4", "game": "game le", "delay": "delay 4 1 1",
}
NO_NUMBERS = (
    "00", "01", "007", "-0", "-00", "-01", "1234567", "-1234567", "0000000", "+1", "+0", "--1", "1-", "-", "1.0", "1e3",
    "1_0", "x", "0x1", "1,0", "\u0663", "1\u0663", "\u00b2", "1\t", "\t1", "1\n", "\n", "none", "1:2", "O",
)
NO_FRACTIONS = (
    "1/0", "0/0", "1/-1", "-1/-2", "1/", "/1", "/", "-/2", "1/2/3", "1//2", "-0/5", "00/1", "01/2", "1/02", "1/00",
    "1/-0", "1/+2", "+1/2", "1234567/1", "1/1234567", "1/1000000", "1000000/1", "1/x", "x/2", "1/\u0663",
    "1/2/", "/1/2", "1\\2", "-1/-1", "--1/2", "1/2\n", "1\t/2",
)


def told(moments):
    """The answer that lists some moments."""
    return " ".join("none" if moment is None else str(Fraction(*moment)) for moment in moments)


def written(moment):
    """A way to write a moment in a command, which is not in lowest terms."""
    return f"{moment[0] * 3}/{moment[1] * 3}"


def line(*circuit):
    return "-".join(str(event) for event in circuit)


class Answers(unittest.TestCase):
    def check(self, work, command, expected):
        kept = copy.deepcopy(work)
        made = Desk(work)
        for _ in range(2):
            answer = made.ask(command)
            self.assertEqual(answer, expected, (work, command))
            self.assertIs(type(answer), str)
        self.assertEqual(work, kept)

    def test_rates(self):
        self.check(WORK, "rates", "4 4")
        self.check(MIXED_RATES, "rates", "0 none 1/3 1/3")
        self.check([[(-7, 2)]], "rates", "-7/2")
        self.check([[None]], "rates", "none")
        self.check(ring(12, (1, 2)), "rates", " ".join(["1/2"] * 12))

    def test_circuit(self):
        self.check(WORK, "circuit 0", "0-1-0")
        self.check(WORK, "circuit 1", "0-1-0")
        for event, expected in enumerate(("0-0", "none", "2-3-2", "2-3-2")):
            self.check(MIXED_RATES, f"circuit {event}", expected)
        self.check(ring(12, (1, 1)), "circuit 11", line(*range(12), 0))
        self.check(ring(12, (1, 1)), "circuit 10", "0-1-2-3-4-5-6-7-8-9-10-11-0")

    def test_repeat(self):
        self.check(WORK, "repeat 0 0", "0 2")
        self.check(WORK, "repeat 1 0", "0 1")
        self.check(WORK, "repeat 2/2 0/7", "0 1")
        self.check(WORK, "repeat -5/10 -3/2", "0 1")
        self.check(MIXED_RATES, "repeat 0 5 0 0", "1 2")
        self.check([[None]], "repeat 999999/999999", "1 1")

    def test_round(self):
        self.check(WORK, "round 0 0 0", "0 0")
        self.check(WORK, "round 0 6/4 -2/6", "3/2 -1/3")
        self.check(WORK, "round 1 0 0", "5 3")
        self.check(WORK, "round 3 0 0", "13 11")
        self.check(WORK, "round 2 1/2 0", "17/2 8")
        self.check(WORK, "round 1000 1 0", "4001 4000")
        self.check(MIXED_RATES, "round 1 0 0 0 0", "0 none 5 1/2")
        self.check(MIXED_RATES, "round 2 0 0 0 0", "0 none 2/3 11/2")
        self.check([[None]], "round 1000 7", "none")
        self.check([[(1, 999983)]], "round 1000 0", "1000/999983")

    def test_least(self):
        self.check(WORK, "least", "4")
        self.check(MIXED_RATES, "least", "1/3")
        self.check([[None]], "least", "none")
        self.check([[(-3, 4)]], "least", "-3/4")
        self.check([[(0, 1)]], "least", "0")

    def test_plan(self):
        self.check(WORK, "plan 4", "1 0")
        self.check(WORK, "plan 9/2", "1/2 0")
        self.check(WORK, "plan 18/4", "1/2 0")
        self.check(WORK, "plan 100", "0 0")
        self.check(WORK, "plan 3", "none")
        self.check(WORK, "plan 399999/100000", "none")
        self.check(WORK, "plan -1", "none")
        self.check([[None]], "plan -999999", "0")
        self.check(MIXED_RATES, "plan 2/6", "0 0 14/3 29/6")

    def test_game(self):
        self.check(WORK, "game ll", "4 4")
        self.check(WORK, "game le", "4 4")
        self.check(WORK, "game el", "2 2")
        self.check(WORK, "game ee", "2 2")
        self.check([[(1, 2), (1, 1)], [None, (-1, 3)]], "game le", "1/2 -1/3")
        self.check([[(1, 2), (1, 1)], [None, (-1, 3)]], "game el", "-1/3 -1/3")
        for sides in ("llll", "eeee", "lele"):
            self.check(MIXED_RATES, "game " + sides, "none")
        self.check([[None]], "game e", "none")

    def test_delay(self):
        self.check(WORK, "delay 4 0 0", "over 0")
        self.check(WORK, "delay 4 1 0", "forever 0-1-0")
        self.check(WORK, "delay 4 0 1/999999", "forever 0-1-0")
        self.check(WORK, "delay 5 1 0", "over 1")
        self.check(WORK, "delay 5 2 0", "over 1")
        self.check(WORK, "delay 5 6/2 0", "over 3")
        self.check(WORK, "delay 9/2 5 0", "over 9")
        self.check(WORK, "delay 3 1 0", "none")
        self.check(WORK, "delay 3 0/5 0/7", "none")
        self.check(WORK, "delay -1 0 0", "none")
        self.check([[(0, 1)]], "delay 0 1", "forever 0-0")
        self.check([[(0, 1)]], "delay 1 2000", "over 2000")
        self.check([[None]], "delay -999999 999999", "over 1")

    def test_samples_agree_with_the_functions(self):
        samples = Samples(120)
        kinds = set()
        for work in samples.works(120, 5):
            made = Desk(work)
            size = len(work)
            rates, circuits, _ = rate_paper(work)
            self.assertEqual(made.ask("rates"), told(rates))
            for event in range(size):
                expected = "none" if circuits[event] is None else line(*circuits[event])
                self.assertEqual(made.ask(f"circuit {event}"), expected)
            vector = samples.vector(size, 0)
            words = " ".join(written(moment) for moment in vector)
            self.assertEqual(made.ask("least"), told([least_period(work)]))
            steps = samples.number(40)
            self.assertEqual(made.ask(f"round {steps} {words}"), told(round_after(work, vector, steps)))
            self.check_or_refused(made, f"repeat {words}", lambda: "{} {}".format(*repeating(work, vector)))
            letters = "".join("le"[samples.number(2)] for _ in work)
            if all(row.count(None) < size for row in work):
                sides = [{"l": "late", "e": "early"}[letter] for letter in letters]
                self.check_or_refused(made, f"game {letters}", lambda: told(game_paper((work, sides))[0]))
            else:
                self.assertEqual(made.ask(f"game {letters}"), "none")
            kinds.add(self.check_plan(made, work, samples))
        self.assertEqual(kinds, {"none", "over", "forever"})

    def check_or_refused(self, made, command, expected):
        try:
            answer = expected()
        except TooLong:
            with self.assertRaises(TooLong):
                made.ask(command)
        else:
            self.assertEqual(made.ask(command), answer)

    def check_plan(self, made, work, samples):
        period = least_period(work) or (0, 1)
        period = pair(Fraction(*period) + samples.number(4) - 1)
        delays = [pair(abs(Fraction(*moment))) for moment in samples.vector(len(work), 0)]
        moments = plan(work, period)
        words = " ".join([written(period)] + [written(delay) for delay in delays])
        if moments is None:
            self.assertEqual(made.ask(f"plan {written(period)}"), "none")
            self.assertEqual(made.ask(f"delay {words}"), "none")
            return "none"
        self.assertEqual(made.ask(f"plan {written(period)}"), told(moments))
        kind, end = end_of_delays(work, moments, period, delays)
        self.assertEqual(made.ask(f"delay {words}"), f"over {end}" if kind == "over" else f"forever {line(*end)}")
        return kind

    def test_numbers_of_6_digits(self):
        self.check([[(0, 1)]], "round 0 999999", "999999")
        self.check([[(0, 1)]], "round 0 -999999", "-999999")
        self.check([[(0, 1)]], "round 0 -999999/999998", "-999999/999998")
        self.check([[(0, 1)]], "round 0 -100000/999999", "-100000/999999")
        self.check([[(0, 1)]], "round 0 0/999999", "0")
        self.check([[(0, 1)]], "round 0 100/10", "10")
        self.check([[(0, 1)]], "round 0 -3/1", "-3")
        self.check([[(0, 1)]], "plan 0/1", "0")

    def test_what_is_refused_as_the_functions_are(self):
        work = [whole(0, None, None), [None, (1, 1000), None], whole(0, 0, None)]
        self.check(work, "repeat 1998/1000 0 0", "1999 1")
        self.check(beside([whole(0)], [whole(1)]), "delay 1 2000 0", "over 2000")
        late = [whole(0, None, None), [None, (1, 1000), None], [(997, 1000), (0, 1), None]]
        self.check(late, "game lll", "0 1/1000 1/1000")
        later = [whole(0, None, None), [None, (1, 1000), None], [(499, 500), (0, 1), None]]
        for refused, command in (
            (work, "repeat 1999/1000 0 0"), ([whole(0)], "delay 1 2001"), ([whole(0)], "delay 1/2 2001/2"),
            (later, "game lll"), (later, "game lel"),
        ):
            made = Desk(refused)
            with self.assertRaises(TooLong) as caught:
                made.ask(command)
            self.assertIs(type(caught.exception), TooLong)
            self.assertEqual(made.ask("least"), told([least_period(refused)]))
        self.assertEqual(Desk([whole(0)]).ask("delay 1/2 2000/2"), "over 2000")


class Works(unittest.TestCase):
    def test_works_that_are_not_valid(self):
        for work in (
            [], [[]], [whole(1, 2)], [whole(1), whole(2)], [[(2, 4)]], [[(1, 0)]], [[(1, -1)]], [[(1000001, 1)]],
            [[(1, 1000001)]], ring(13, (1, 1)), [whole(1, 2), whole(3)],
        ):
            with self.assertRaises(BadWork) as caught:
                Desk(work)
            self.assertIs(type(caught.exception), BadWork)

    def test_later_changes_of_the_work_have_no_effect(self):
        for change in (spoil, lambda work: work[0].clear(), lambda work: work.append([]), lambda work: work.reverse()):
            work = copy.deepcopy(MIXED_RATES)
            made = Desk(work)
            commands = ["rates", "circuit 2", "repeat 0 0 0 1", "round 5 0 0 0 1", "least", "plan 1", "game llll",
                        "delay 1/3 1 1 1 1"]
            before = [made.ask(command) for command in commands]
            change(work)
            self.assertEqual([made.ask(command) for command in commands], before)
            self.assertEqual(before, [Desk(MIXED_RATES).ask(command) for command in commands])

    def test_two_desks(self):
        first, second = Desk(WORK), Desk(MIXED_RATES)
        answers = [made.ask("rates") for made in (first, second, first)]
        self.assertEqual(answers, ["4 4", "0 none 1/3 1/3", "4 4"])


class BadCommands(unittest.TestCase):
    def refuse(self, command, work=None):
        kept = copy.deepcopy(WORK if work is None else work)
        made = Desk(kept)
        with self.assertRaises(BadCommand, msg=repr(command)) as caught:
            made.ask(command)
        self.assertIs(type(caught.exception), BadCommand)
        self.assertEqual(kept, WORK if work is None else work)

    def test_good_ones(self):
        for word, command in GOOD.items():
            self.assertTrue(Desk(WORK).ask(command), word)

    def test_empty_commands_and_words(self):
        for command in ("", " ", "  ", "\n", "\t"):
            self.refuse(command)
        for command in GOOD.values():
            self.refuse(" " + command)
            self.refuse(command + " ")
            self.refuse("  " + command)
            self.refuse(command + "  ")
            if " " in command:
                self.refuse(command.replace(" ", "  ", 1))
                self.refuse("  ".join(command.rsplit(" ", 1)))
            self.refuse(command + "\n")
            self.refuse("\t" + command)
            self.refuse(command.replace(" ", "\t") + "\t")
        self.refuse("circuit ")
        self.refuse("game ")
        self.refuse("round 3 0 ")

    def test_unknown_words(self):
        for word in (
            "rate", "RATES", "Rates", "rates,", "0", "circuits", "none", "ask", "help", "ratesleast",
            "__init__",
        ):
            for rest in ("", " 0", " 0 0", " 0 0 0", " le"):
                self.refuse(word + rest)

    def test_numbers_of_words(self):
        for word, count in KINDS_OF_WORDS.items():
            for many in range(6):
                if many != count:
                    self.refuse(" ".join([word] + ["0"] * many))
                    self.refuse(" ".join([word] + ["1"] * many))
        self.refuse("game l e")
        self.refuse("rates rates")
        self.refuse("repeat 0", ring(12, (1, 1)))
        self.refuse("repeat" + " 0" * 13, ring(12, (1, 1)))
        self.assertEqual(Desk(ring(12, (1, 1))).ask("repeat" + " 0" * 12), "0 1")

    def test_words_that_are_not_numbers(self):
        for word in NO_NUMBERS:
            for command in (
                "circuit X", "round X 0 0", "repeat X 0", "repeat 0 X", "round 1 X 0", "round 1 0 X", "plan X",
                "delay X 0 0", "delay 4 X 0", "delay 4 0 X",
            ):
                self.refuse(command.replace("X", word))

    def test_words_that_are_not_fractions(self):
        for word in NO_FRACTIONS:
            for command in (
                "repeat X 0", "repeat 0 X", "round 1 X 0", "round 1 0 X", "plan X", "delay X 0 0", "delay 4 X 0",
                "delay 4 0 X",
            ):
                self.refuse(command.replace("X", word))

    def test_fractions_that_are_not_numbers(self):
        for word in ("0/1", "1/1", "2/2", "1/2"):
            self.refuse("circuit " + word)
            self.refuse(f"round {word} 0 0")

    def test_events(self):
        for word in ("2", "-1", "-2", "12", "999999", "-999999"):
            self.refuse("circuit " + word)
        self.refuse("circuit 1", [[None]])
        self.refuse("circuit 12", ring(12, (1, 1)))
        self.refuse("circuit -12", ring(12, (1, 1)))

    def test_numbers_of_steps(self):
        for word in ("-1", "1001", "999999", "-999999"):
            self.refuse(f"round {word} 0 0")
        self.assertEqual(Desk(WORK).ask("round 1000 0 0"), "4000 4000")
        self.assertEqual(Desk(WORK).ask("round 0 0 0"), "0 0")

    def test_delays_below_0(self):
        for words in ("-1 0", "0 -1", "-1/999999 0", "5 -1/2", "-999999 -1"):
            for period in ("4", "5", "3", "-1"):
                self.refuse(f"delay {period} {words}")
        self.assertEqual(Desk(WORK).ask("delay 4 0/3 0"), "over 0")

    def test_sides(self):
        for word in (
            "l", "lle", "lx", "xl", "LE", "Le", "late", "l-", "l,e", "le,", "11", "l\n", "le\n", "00",
            "\u2113e",
        ):
            self.refuse("game " + word)
            self.refuse("game " + word, [whole(None, None), whole(1, 1)])
        self.refuse("game ll", [[None]])
        self.refuse("game x", [[None]])

    def test_they_are_looked_for_before_anything_else(self):
        # Without the fault in the command each of these would be refused otherwise, or answered with none.
        late = [whole(0, None, None), [None, (1, 1000), None], [(999, 500), (0, 1), None]]
        for command in (
            "repeat 999999 0 0x", "repeat 999999 0", "repeat 999999 0 0 0", "repeat 999999 0 -0", "game ll",
            "game llll", "game lll lll", "game llx", "round 1001 999999 0 x", "round -1 0 0 0",
            "delay 1/999 999999 0 -1",
            "delay 1/999 999999 0 1/0", "delay 1/999 999999 0", "delay -1 0 0 -1", "delay -1 0 0", "delay -1 0 0 00",
            "plan -1 0", "circuit 3", "delay 1/999 999999 0 0 0",
        ):
            self.refuse(command, late)
        for command in ("repeat 999999 0 0", "game lll", "delay 1/999 999999 0 0"):
            with self.assertRaises(TooLong):
                Desk(late).ask(command)
        self.assertEqual(Desk(late).ask("delay -1 0 0 0"), "none")


class Interface(unittest.TestCase):
    def test_names_and_arguments(self):
        self.assertEqual(Desk.__module__, "latelaw.desk")
        self.assertIs(desk.Desk, Desk)
        self.assertEqual(list(inspect.signature(Desk).parameters), ["work"])
        self.assertIn("ask", vars(Desk))
        self.assertEqual(list(inspect.signature(Desk.ask).parameters), ["self", "command"])


if __name__ == "__main__":
    unittest.main()
