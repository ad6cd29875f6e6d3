"""What Automaton and Automaton.deterministic refuse."""

import unittest

from lastslip.automata import Automaton
from lastslip.errors import Incomplete, InvalidAlphabet, InvalidSize, InvalidState, InvalidTransitions

from samples import NOTHINGS, NUMBERS, WRONG_STRINGS, raised

LOOP = [(0, "a", 0, "safe"), (0, "b", 0, "slip"), (1, "a", 0, "slip"), (1, "b", 1, "safe")]
NO_ALPHABETS = [*NOTHINGS, *NUMBERS, *WRONG_STRINGS, "", "ba", "aa", "abcd", "abb", ("a", "b")]
NO_STATES = [*NOTHINGS, *WRONG_STRINGS, "", "0", -1, 2, 65, 10 ** 29, (0,), [0]]
NO_LETTERS = [*NOTHINGS, *NUMBERS, *WRONG_STRINGS, "", "c", "ab", "aa", ("a",), ["a"]]
NO_KINDS = [*NOTHINGS, *NUMBERS, *WRONG_STRINGS, "", "Safe", "saf", "safe ", "slips", ("safe",), ["slip"]]
NO_LISTS = [None, True, False, 0, 5, "", "ab", "0 a 0 safe"]
NO_MOVES = [*NOTHINGS, *NUMBERS, *WRONG_STRINGS, "", [0, "safe"], (0,), (0, "safe", 0), ("safe", 0)]


def looped(many):
    return [(state, "a", state, "safe") for state in range(many)]


class RefusedTest(unittest.TestCase):
    def test_alphabets(self):
        for alphabet in NO_ALPHABETS:
            raised(self, InvalidAlphabet, {"given": alphabet}, Automaton, alphabet, 2, LOOP)
            raised(self, InvalidAlphabet, {"given": alphabet}, Automaton, alphabet, 0, None, initial=None)

    def test_sizes(self):
        for size in [*NOTHINGS, *WRONG_STRINGS, "", "1", -1, 0, 66, 10 ** 29, (1,)]:
            raised(self, InvalidSize, {"given": size}, Automaton, "ab", size, LOOP)
            raised(self, InvalidSize, {"given": size}, Automaton, "ab", size, None, initial=-1)
        self.assertEqual(len(Automaton("a", 65, looped(65), initial=64)), 65)
        raised(self, InvalidSize, {"given": 66}, Automaton, "a", 66, looped(66))

    def test_no_list(self):
        for value in NO_LISTS:
            raised(self, InvalidTransitions, {"at": -1}, Automaton, "ab", 2, value)
            raised(self, InvalidTransitions, {"at": -1}, Automaton, "ab", 2, value, initial=None)

    def test_wrong_parts_of_a_transition(self):
        wrong = [(state, "a", 0, "safe") for state in NO_STATES]
        wrong += [(0, letter, 1, "safe") for letter in NO_LETTERS]
        wrong += [(0, "a", state, "slip") for state in NO_STATES]
        wrong += [(0, "a", 1, kind) for kind in NO_KINDS]
        wrong += [None, True, 0, "", "0a1s", (), [], (0, "a", 1), (0, "a", 1, "safe", 0), ("a", 0, 1, "safe"),
                  [0, "a", 1, "safe"], ((0, "a", 1, "safe"),), [(0, "a", 1, "safe")], (0, "a", (1, "safe"))]
        for row in wrong:
            for at in (0, 2, 4):
                raised(self, InvalidTransitions, {"at": at}, Automaton, "ab", 2, [*LOOP[:at], row, *LOOP[at:]])
            raised(self, InvalidTransitions, {"at": 1}, Automaton, "ab", 2, (LOOP[0], row), initial=9)
            raised(self, InvalidTransitions, {"at": 0}, Automaton, "ab", 2, [row, None])

    def test_repeated_transitions(self):
        for at, (source, letter, target, kind) in enumerate(LOOP):
            for word in ("safe", "slip"):
                for late in range(at + 1, 5):
                    rows = [*LOOP[:late], (source, letter, target, word), *LOOP[late:]]
                    raised(self, InvalidTransitions, {"at": late}, Automaton, "ab", 2, rows)
        self.assertEqual(len(Automaton("ab", 2, [*LOOP, (0, "a", 1, "safe")]).transitions()), 5)

    def test_the_first_wrong_one_counts(self):
        raised(self, InvalidTransitions, {"at": 1}, Automaton, "ab", 2, [LOOP[0], LOOP[0], None])
        raised(self, InvalidTransitions, {"at": 2}, Automaton, "ab", 2, [*LOOP[:2], None, LOOP[0]])

    def test_initial_states(self):
        for state in NO_STATES:
            raised(self, InvalidState, {"given": state}, Automaton, "ab", 2, LOOP, initial=state)
            raised(self, InvalidState, {"given": state}, Automaton, "ab", 2, LOOP[:1], initial=state)
        for state in (0, 1):
            self.assertEqual(Automaton("ab", 2, LOOP, initial=state).initial, state)

    def test_incomplete(self):
        for at, (state, letter, _, _) in enumerate(LOOP):
            raised(self, Incomplete, {"state": state, "letter": letter}, Automaton, "ab", 2, LOOP[:at] + LOOP[at + 1:])
        raised(self, Incomplete, {"state": 0, "letter": "a"}, Automaton, "ab", 2, [])
        raised(self, Incomplete, {"state": 0, "letter": "b"}, Automaton, "ab", 2, [LOOP[0], LOOP[2]])
        raised(self, Incomplete, {"state": 1, "letter": "a"}, Automaton, "ab", 2, LOOP[:2])
        raised(self, Incomplete, {"state": 2, "letter": "a"}, Automaton, "ab", 3, LOOP)
        raised(self, Incomplete, {"state": 64, "letter": "a"}, Automaton, "a", 65, looped(64))


class DeterministicTest(unittest.TestCase):
    ROWS = [[(1, "safe"), (0, "slip")], [(1, "slip"), (0, "safe")]]

    def test_transitions(self):
        for rows in (self.ROWS, tuple(self.ROWS), [tuple(row) for row in self.ROWS]):
            automaton = Automaton.deterministic("ab", rows)
            self.assertEqual(automaton.transitions(), [(0, "a", 1, "safe"), (0, "b", 0, "slip"),
                                                       (1, "a", 1, "slip"), (1, "b", 0, "safe")])
            self.assertEqual([automaton.alphabet, automaton.size, automaton.initial], ["ab", 2, 0])
            self.assertIs(automaton.is_deterministic, True)
        late = Automaton.deterministic(alphabet="xyz", rows=[[(0, "safe"), (0, "slip"), (0, "safe")]], initial=0)
        self.assertEqual(late.transitions(), [(0, "x", 0, "safe"), (0, "y", 0, "slip"), (0, "z", 0, "safe")])
        self.assertEqual(Automaton.deterministic("ab", self.ROWS, initial=1).initial, 1)

    def test_lengths(self):
        for many in (1, 64, 65):
            self.assertEqual(len(Automaton.deterministic("a", [[(many - 1, "safe")]] * many)), many)
        raised(self, InvalidTransitions, {"at": -1}, Automaton.deterministic, "a", [[(0, "safe")]] * 66)
        raised(self, InvalidTransitions, {"at": -1}, Automaton.deterministic, "a", [None] * 66, initial=None)
        raised(self, InvalidTransitions, {"at": -1}, Automaton.deterministic, "a", [])
        raised(self, InvalidTransitions, {"at": -1}, Automaton.deterministic, "a", ())

    def test_alphabets(self):
        for alphabet in NO_ALPHABETS:
            raised(self, InvalidAlphabet, {"given": alphabet}, Automaton.deterministic, alphabet, self.ROWS)
            raised(self, InvalidAlphabet, {"given": alphabet}, Automaton.deterministic, alphabet, None, initial=None)

    def test_no_list(self):
        for value in NO_LISTS:
            raised(self, InvalidTransitions, {"at": -1}, Automaton.deterministic, "ab", value, initial=7)

    def test_wrong_rows(self):
        wrong = [None, True, 0, "", "ab", (), [], [(0, "safe")], [(0, "safe")] * 3, (0, "safe"), [0, "safe"]]
        wrong += [[(state, "safe"), (0, "slip")] for state in NO_STATES]
        wrong += [[(0, "safe"), (1, kind)] for kind in NO_KINDS]
        wrong += [[pair, (0, "safe")] for pair in NO_MOVES] + [[(0, "safe"), pair] for pair in NO_MOVES]
        for row in wrong:
            raised(self, InvalidTransitions, {"at": 0}, Automaton.deterministic, "ab", [row, self.ROWS[1]], initial=5)
            raised(self, InvalidTransitions, {"at": 1}, Automaton.deterministic, "ab", [self.ROWS[0], row])
        raised(self, InvalidTransitions, {"at": 0}, Automaton.deterministic, "ab", [None, None])

    def test_targets_beyond_the_rows(self):
        raised(self, InvalidTransitions, {"at": 1}, Automaton.deterministic, "a", [[(1, "safe")], [(2, "safe")]])

    def test_initial_states(self):
        for state in NO_STATES:
            raised(self, InvalidState, {"given": state}, Automaton.deterministic, "ab", self.ROWS, initial=state)


if __name__ == "__main__":
    unittest.main()
