"""lastslip/trackers.py."""

import unittest

from lastslip.automata import Automaton
from lastslip.errors import InvalidWord, StrangeLetter, TooMany
from lastslip.runs import accepts
from lastslip.trackers import after, determinize, pairs_of
from lastslip.words import Lasso, words_of

from samples import (GREAT, NOTHINGS, NUMBERS, WRONG_STRINGS, in_a_row, raised, read_by, real_tracker, really_accepts,
                     some_automata, writings)

SAMPLES = some_automata(31, 80, ("a", "ab", "ab", "xyz"), (1, 2, 3, 4), 5)
GREATER = some_automata(32, 20, ("ab",), (5, 6), 5)
CALM = Automaton("ab", 3, [(0, "a", 0, "safe"), (0, "b", 0, "slip"), (0, "b", 1, "slip"), (1, "a", 2, "safe"),
                           (1, "b", 1, "safe"), (2, "a", 2, "slip"), (2, "b", 2, "slip")])


class DeterminizeTest(unittest.TestCase):
    def test_the_document(self):
        either = Automaton("ab", 3, [(0, "a", 1, "safe"), (0, "b", 1, "slip"), (0, "a", 2, "slip"), (0, "b", 2, "safe"),
                                     (1, "a", 1, "safe"), (1, "b", 1, "slip"), (2, "a", 2, "slip"), (2, "b", 2, "safe")])
        self.assertEqual(pairs_of(either), [((0,), (0,)), ((1, 2), (1,)), ((1, 2), (2,)), ((1, 2), (1, 2))])

    def test_a_known_one(self):
        self.assertEqual(pairs_of(CALM), [((0,), (0,)), ((0, 1), (0, 1)), ((0, 2), (0, 2)), ((0, 1), (1,)),
                                          ((0, 2), (0,)), ((0, 1, 2), (0, 1, 2)), ((0, 2), (2,)), ((0, 1, 2), (1,))])
        self.assertEqual(determinize(CALM), Automaton.deterministic("ab", [
            [(0, "safe"), (1, "slip")], [(2, "safe"), (3, "safe")], [(4, "safe"), (5, "slip")],
            [(6, "safe"), (3, "safe")], [(4, "safe"), (5, "slip")], [(2, "safe"), (7, "safe")],
            [(2, "slip"), (5, "slip")], [(6, "safe"), (7, "safe")]]))

    def test_pairs_slips_and_numbers(self):
        found = 0
        for automaton in SAMPLES + GREATER:
            pairs, rows = real_tracker(automaton, 65)
            if len(pairs) > 65:
                raised(self, TooMany, {"most": 65}, pairs_of, automaton)
                raised(self, TooMany, {"most": 65}, determinize, automaton)
                continue
            found += 1
            before = automaton.transitions()
            self.assertEqual(repr(pairs_of(automaton)), repr(pairs))
            tracker = determinize(automaton)
            self.assertEqual(tracker, Automaton.deterministic(automaton.alphabet, rows))
            self.assertEqual([tracker.initial, tracker.is_deterministic], [0, True])
            self.assertEqual(automaton.transitions(), before)
        self.assertGreater(found, 80)

    def test_pairs_of_many_states(self):
        # The tuples ascend, also where there are more than eight states.
        rows = [(0, "a", target, "safe" if target in (16, 8, 9) else "slip") for target in (33, 16, 8, 1, 64, 9)]
        rows += [(state, "a", state, "safe") for state in range(1, 65)]
        self.assertEqual(pairs_of(Automaton("a", 65, rows)), [((0,), (0,)), ((1, 8, 9, 16, 33, 64), (8, 9, 16))])

    def test_a_deterministic_automaton_gets_other_numbers(self):
        automaton = Automaton.deterministic("ab", [[(0, "safe"), (1, "slip")], [(0, "slip"), (3, "safe")],
                                                   [(2, "safe"), (2, "safe")], [(3, "safe"), (0, "slip")]], initial=1)
        self.assertEqual(pairs_of(automaton), [((1,), (1,)), ((0,), (0,)), ((3,), (3,))])
        self.assertEqual(determinize(automaton).transitions(),
                         [(0, "a", 1, "slip"), (0, "b", 2, "safe"), (1, "a", 1, "safe"), (1, "b", 0, "slip"),
                          (2, "a", 2, "safe"), (2, "b", 1, "slip")])

    def test_the_same_lassos_are_accepted(self):
        for automaton in SAMPLES[:40]:
            tracker = determinize(automaton)
            for prefix, loop in writings(automaton.alphabet, 1, 3):
                wanted = really_accepts(automaton, prefix, loop)
                self.assertEqual(really_accepts(tracker, prefix, loop), wanted)
                self.assertEqual(accepts(tracker, Lasso(prefix, loop)), wanted)

    def test_the_list_is_new(self):
        pairs_of(automaton=CALM).clear()
        self.assertEqual(pairs_of(CALM)[0], ((0,), (0,)))


class BoundTest(unittest.TestCase):
    def test_trackers_near_the_bound(self):
        self.assertEqual([many for many, _ in GREAT], [63, 64, 65, 65, 66, 66, 67, 68, 69, 136])
        for many, automaton in GREAT:
            pairs, rows = real_tracker(automaton)
            self.assertEqual(len(pairs), many)
            if many <= 65:
                self.assertEqual(pairs_of(automaton), pairs)
                self.assertEqual(determinize(automaton), Automaton.deterministic("ab", rows))
                self.assertEqual(after(automaton, ""), determinize(automaton))
            else:
                for call in (pairs_of, determinize):
                    raised(self, TooMany, {"most": 65}, call, automaton)
                for word in ("", "a", "b" * 200):
                    raised(self, TooMany, {"most": 65}, after, automaton, word)

    def test_a_row_in_front(self):
        many = len(pairs_of(CALM))
        for before in range(63 - many, 66 - many):
            self.assertEqual(len(determinize(in_a_row(before, CALM))), before + many)
        self.assertLess(66 - many + 3, 65)
        for before in range(66 - many, 69 - many):
            raised(self, TooMany, {"most": 65}, determinize, in_a_row(before, CALM))

    def test_the_greatest_deterministic_automaton(self):
        automaton = Automaton.deterministic("a", [[((state + 1) % 65, "slip")] for state in range(65)], initial=3)
        self.assertEqual(pairs_of(automaton), [(((at + 3) % 65,), ((at + 3) % 65,)) for at in range(65)])

    def test_a_tracker_that_nobody_could_write_down(self):
        rows = [(state, "a", (state + 1) % 65, "safe") for state in range(65)]
        rows += [(state, "b", state, "safe") for state in range(1, 65)] + [(0, "b", 0, "slip"), (0, "b", 1, "slip")]
        rows += [(state, "b", (state * 2) % 65, "slip") for state in range(2, 65)]
        raised(self, TooMany, {"most": 65}, determinize, Automaton("ab", 65, rows))


class AfterTest(unittest.TestCase):
    def test_its_transitions(self):
        for automaton in SAMPLES[:40]:
            tracker = determinize(automaton)
            for word in words_of(automaton.alphabet, 3):
                state = min(read_by(tracker, {0}, word))
                self.assertEqual(after(automaton, word), tracker.begun_at(state).trimmed())

    def test_the_words_that_it_accepts(self):
        for automaton in SAMPLES[:12]:
            for word in [*words_of(automaton.alphabet, 2), automaton.alphabet * 9]:
                late = after(automaton, word)
                for prefix, loop in writings(automaton.alphabet, 1, 2):
                    self.assertEqual(really_accepts(late, prefix, loop),
                                     really_accepts(automaton, word + prefix, loop))

    def test_a_known_one(self):
        automaton = Automaton.deterministic("ab", [[(1, "safe"), (0, "slip")], [(2, "slip"), (1, "safe")],
                                                   [(1, "safe"), (2, "safe")]])
        self.assertEqual(after(automaton, "ba").transitions(), [(0, "a", 1, "slip"), (0, "b", 0, "safe"),
                                                                (1, "a", 0, "safe"), (1, "b", 1, "safe")])
        self.assertEqual([after(automaton, "aa").initial, after(automaton=automaton, word="a").initial], [1, 0])

    def test_wrong_words_and_letters(self):
        great = GREAT[-1][1]
        for automaton in (CALM, great):
            for word in [*NOTHINGS, *NUMBERS, *WRONG_STRINGS, "a" * 201, "C" * 201, ["a"]]:
                raised(self, InvalidWord, {"given": word}, after, automaton, word)
            for word, letter in [("c", "c"), ("abzc", "z"), ("a" * 199 + "d", "d"), ("ca", "c")]:
                raised(self, StrangeLetter, {"given": letter}, after, automaton, word)
        self.assertEqual(after(CALM, "a" * 200), determinize(CALM))


if __name__ == "__main__":
    unittest.main()
