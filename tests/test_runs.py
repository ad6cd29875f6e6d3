"""lastslip/runs.py."""

import unittest

from lastslip.automata import Automaton
from lastslip.errors import StrangeLetter
from lastslip.runs import Run, accepting_run, accepts
from lastslip.words import Lasso

from samples import NOTHINGS, NUMBERS, in_a_row, raised, really_accepts, some_automata, writings

# By a it may stay or go to 1, where it slips by b only.
GUESS = Automaton("ab", 2, [(0, "a", 0, "slip"), (0, "a", 1, "slip"), (0, "b", 0, "slip"),
                            (1, "a", 1, "safe"), (1, "b", 0, "slip")])
LONGER = [("abab", "abbab"), ("", "aababb"), ("bbaab", "abaabb"), ("a" * 20, "b" * 7), ("ab" * 10, "ab" * 4 + "a")]


def fits(automaton, lasso, states, turn):
    """Whether these are a run, by the words of the document."""
    numbers = [turn, *states]
    if any(isinstance(number, bool) or not isinstance(number, int) for number in numbers):
        return False
    last = len(states) - 1
    if not len(lasso.prefix) <= turn < last or (last - turn) % len(lasso.loop) or states[0] != automaton.initial:
        return False
    rows = automaton.transitions()
    good = [any((states[at], lasso[at], states[at + 1], kind) in rows for kind in ("safe", "slip")[:2 - (at >= turn)])
            for at in range(last)]
    return all(good) and states[last] == states[turn]


class KeptTest(unittest.TestCase):
    def test_states_and_turn(self):
        self.assertEqual([Run([0, 1, 1], 1).states(), Run([0, 1, 1], 1).turn], [[0, 1, 1], 1])
        self.assertEqual(Run((0, 1), 0).states(), [0, 1])
        self.assertEqual(Run(states=[], turn=5).states(), [])
        for value in [None, True, 0, "", "01", 10 ** 29]:
            self.assertIsNone(Run(value, 0).states())
            self.assertEqual(repr(Run([0], value).turn), repr(value))
        for value in [[None, True], ["a", 5], [[0], [[1], "x"]], [(0, 1)]]:
            self.assertEqual(repr(Run(value, value).states()), repr(value))
            self.assertEqual(repr(Run(value, value).turn), repr(value))

    def test_lists_are_copied(self):
        inner = [1]
        states = [0, inner]
        run = Run(states, inner)
        states.append(2)
        inner.append(3)
        self.assertEqual([run.states(), run.turn], [[0, [1]], [1]])
        run.states().append(5)
        run.states()[1].append(5)
        self.assertEqual(run.states(), [0, [1]])
        deep = Run([([1], 0)], 0)
        deep.states()[0][0].append(5)
        self.assertEqual(deep.states(), [([1], 0)])

    def test_repr(self):
        self.assertEqual([repr(Run([0, 0], 2)), repr(Run(None, 17))], ["Run(turn 2)", "Run(turn 17)"])

    def test_equal(self):
        values = [None, "", "a", True, False, 0, 1, 2, (), (0,), [], [0], [1], [True], [0, 1], [[0]], [(0,)], [[]]]
        for one in values:
            for other in values:
                # Booleans are not numbers, and a list of states may be written as a tuple.
                alike = repr(Run(one, 0).states()) == repr(Run(other, 0).states())
                self.assertIs(Run(one, 0) == Run(other, 0), alike)
                self.assertIs(Run(one, 0) != Run(other, 0), not alike)
                self.assertIs(Run([0], one) == Run([0], other), repr(one) == repr(other))
        for value in [None, True, 2, "Run(turn 2)", [0, 0], ([0, 0], 2), [[0, 0], 2]]:
            self.assertIs(Run([0, 0], 2) == value, False)
            self.assertIs(Run([0, 0], 2) != value, True)


class HoldsTest(unittest.TestCase):
    def test_good_runs(self):
        lasso = Lasso("b", "a")
        for states, turn in [([0, 0, 1, 1], 2), ((0, 0, 1, 1), 2), ([0, 0, 1, 1, 1, 1], 2), ([0, 0, 1, 1, 1], 3),
                             ([0, 0, 0, 0, 1, 1], 4)]:
            self.assertIs(Run(states, turn).holds(GUESS, lasso), True)
        self.assertIs(Run([1, 1], 0).holds(automaton=GUESS.begun_at(1), lasso=Lasso("", "a")), True)

    def test_one_thing_bent(self):
        lasso = Lasso("b", "a")
        good = [0, 0, 1, 1]
        wrong = [(good, turn) for turn in (-1, 0, 1, 3, 4, 10 ** 29, None, True, False, "2", [2], (2,))]
        for at in range(4):
            for value in [1 - good[at], -1, 2, 10 ** 29, None, True, False, "1", [good[at]], (good[at],)]:
                wrong.append(([*good[:at], value, *good[at + 1:]], 2))
        wrong += [([0, 0, 1], 2), ([0, 0], 1), ([0], 0), ([], 0), ([], -1), ([0, 0, 0, 0], 2), ([1, 0, 1, 1], 2)]
        wrong += [(None, 2), (True, 2), (0, 2), ("0011", 2), ([good], 2), (good + [0], 2)]
        for states, turn in wrong:
            self.assertIs(Run(states, turn).holds(GUESS, lasso), False, (states, turn))

    def test_booleans_are_no_states(self):
        lasso = Lasso("", "a")
        automaton = Automaton("a", 2, [(0, "a", 1, "safe"), (1, "a", 0, "safe")])
        self.assertIs(Run([0, 1, 0], 0).holds(automaton, lasso), True)
        for states, turn in [([0, True, 0], 0), ([False, 1, 0], 0), ([0, 1, False], 0), ([0, 1, 0], False)]:
            self.assertIs(Run(states, turn).holds(automaton, lasso), False)

    def test_the_length_is_a_multiple_of_the_loop(self):
        automaton = Automaton("ab", 1, [(0, "a", 0, "safe"), (0, "b", 0, "safe")])
        lasso = Lasso("a", "abb")
        for last in range(12):
            for turn in range(12):
                wanted = 1 <= turn < last and (last - turn) % 3 == 0
                self.assertIs(Run([0] * (last + 1), turn).holds(automaton, lasso), wanted)
        # The kept loop counts, and it is shorter than the one that was passed.
        self.assertIs(Run([0, 0], 0).holds(automaton, Lasso("aa", "aaaa")), True)

    def test_slips_before_and_behind_the_turn(self):
        automaton = Automaton("ab", 1, [(0, "a", 0, "safe"), (0, "b", 0, "slip")])
        self.assertIs(Run([0] * 4, 2).holds(automaton, Lasso("bb", "a")), True)
        self.assertIs(Run([0] * 4, 2).holds(automaton, Lasso("ab", "b")), False)
        self.assertIs(Run([0] * 5, 2).holds(automaton, Lasso("", "ab")), False)

    def test_all_lists_of_states(self):
        for automaton in some_automata(21, 12, sizes=(2,)):
            for lasso in (Lasso("", "a"), Lasso("a", "b"), Lasso("", "ab")):
                for states, _ in writings("01", 5, 1):
                    listed = [int(sign) for sign in states]
                    for turn in range(5):
                        if listed:
                            self.assertIs(Run(listed, turn).holds(automaton, lasso),
                                          fits(automaton, lasso, listed, turn))

    def test_strange_letters(self):
        for text, letter in [("c(a)", "c"), ("a(c)", "c"), ("dc(ab)", "d"), ("ab(adc)", "d"), ("(abz)", "z"),
                             ("dcd(cd)", "d"), ("azyz(yz)", "z")]:
            lasso = Lasso.of_text(text)
            for run in (Run([0, 0, 1, 1], 2), Run(None, None), Run([], 0), Run([True], True)):
                raised(self, StrangeLetter, {"given": letter}, run.holds, GUESS, lasso)
            raised(self, StrangeLetter, {"given": letter}, accepts, GUESS, lasso)
            raised(self, StrangeLetter, {"given": letter}, accepting_run, GUESS, lasso)


class AcceptsTest(unittest.TestCase):
    def check(self, automaton, prefix, loop):
        lasso = Lasso(prefix, loop)
        wanted = really_accepts(automaton, prefix, loop)
        self.assertIs(accepts(automaton, lasso), wanted)
        run = accepting_run(automaton, lasso)
        self.assertIs(run is not None, wanted)
        if wanted:
            self.assertIs(run.holds(automaton, lasso), True)
            self.assertIs(fits(automaton, lasso, run.states(), run.turn), True)
        return wanted

    def test_all_short_lassos(self):
        answers = []
        for automaton in some_automata(22, 60):
            answers += [self.check(automaton, prefix, loop) for prefix, loop in [*writings("ab", 2, 3), *LONGER]]
        self.assertGreater(answers.count(True), 500)
        self.assertGreater(answers.count(False), 500)

    def test_other_alphabets_and_more_guesses(self):
        for automaton in some_automata(23, 30, ("acz",), (3, 5, 6), 14):
            for prefix, loop in writings("acz", 1, 2):
                self.check(automaton, prefix, loop)

    def test_a_guess_that_comes_late(self):
        # Only at the end of its row may it begin to stay in the loop that is safe by a.
        automaton = in_a_row(60, GUESS)
        for prefix, loop, wanted in [("", "a", True), ("b" * 90, "a", True), ("a" * 90, "ab", False), ("", "b", False)]:
            self.assertIs(self.check(automaton, prefix, loop), wanted)

    def test_long_lassos(self):
        full = "ab" * 4999 + "ba"
        for loop, wanted in [("a" * 9999 + "b", False), (full, False), ("a", True)]:
            lasso = Lasso(full, loop)
            self.assertIs(accepts(GUESS, lasso), wanted)
            self.assertIs(accepting_run(GUESS, lasso) is not None, wanted)
        run = accepting_run(GUESS, Lasso(full, "a"))
        self.assertIs(run.holds(GUESS, Lasso(full, "a")), True)

    def test_the_loop_may_have_to_be_read_several_times(self):
        three = Automaton("a", 3, [(0, "a", 1, "safe"), (1, "a", 2, "safe"), (2, "a", 0, "safe")])
        run = accepting_run(three, Lasso("", "a"))
        self.assertIs(run.holds(three, Lasso("", "a")), True)
        self.assertEqual((len(run.states()) - 1 - run.turn) % 3, 0)

    def test_by_name(self):
        self.assertIs(accepts(automaton=GUESS, lasso=Lasso("", "a")), True)
        self.assertIsNone(accepting_run(automaton=GUESS, lasso=Lasso("", "b")))
        self.assertEqual(repr(accepting_run(GUESS.begun_at(1), Lasso("", "a"))), "Run(turn 0)")


class ValuesTest(unittest.TestCase):
    def test_any_values(self):
        for states in [*NOTHINGS, *NUMBERS, "", "ab"]:
            for turn in [*NOTHINGS, *NUMBERS, "", "ab"]:
                self.assertIs(Run(states, turn).holds(GUESS, Lasso("", "a")), False)


if __name__ == "__main__":
    unittest.main()
