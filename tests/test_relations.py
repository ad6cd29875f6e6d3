"""lastslip/relations.py."""

import random
import unittest

from lastslip.automata import Automaton
from lastslip.components import normal
from lastslip.errors import DifferentAlphabets, TooMany
from lastslip.relations import accepted_word, beyond, refused_word, same_words, separating, within
from lastslip.trackers import determinize
from lastslip.words import Lasso

from samples import GREAT, mixed, raised, really_accepts, some_automata, writings

SHORT = writings("ab", 2, 3)
PAIRS = (beyond, separating, within, same_words)
GOOD = [automaton for many, automaton in GREAT if many <= 65]
BAD = [automaton for many, automaton in GREAT if many > 65]


def constant(alphabet, kind):
    return Automaton.deterministic(alphabet, [[(0, kind)] * len(alphabet)])


ALL = constant("ab", "safe")
NONE = constant("ab", "slip")


def one_changed(chance, automaton):
    """The automaton with another kind of one transition, or with one more transition."""
    rows = automaton.transitions()
    at = chance.randrange(len(rows))
    source, letter, target, kind = rows[at]
    rows[at] = (source, letter, target, "slip" if kind == "safe" else "safe")
    return Automaton(automaton.alphabet, automaton.size, rows, initial=automaton.initial)


class PairsTest(unittest.TestCase):
    def check(self, one, other):
        """Checks all four functions; tells whether there is a lasso of the first one only."""
        first, second = [{(prefix, loop): really_accepts(automaton, prefix, loop) for prefix, loop in SHORT}
                         for automaton in (one, other)]
        lasso = beyond(one, other)
        if lasso is None:
            self.assertFalse([key for key in SHORT if first[key] and not second[key]])
        else:
            self.assertIs(type(lasso), Lasso)
            self.assertTrue(really_accepts(one, lasso.prefix, lasso.loop))
            self.assertFalse(really_accepts(other, lasso.prefix, lasso.loop))
        self.assertIs(within(one, other), lasso is None)
        late = separating(one, other)
        self.assertIs(same_words(one, other), late is None)
        self.assertIs(late is None, lasso is None and beyond(other, one) is None)
        if late is not None:
            self.assertNotEqual(really_accepts(one, late.prefix, late.loop),
                                really_accepts(other, late.prefix, late.loop))
        return lasso is not None

    def test_two_automata(self):
        samples = some_automata(41, 36)
        answers = [self.check(one, other) for one, other in zip(samples, samples[::-1])]
        self.assertGreater(answers.count(True), 8)
        self.assertGreater(answers.count(False), 8)

    def test_one_transition_changed(self):
        chance = random.Random(42)
        answers = []
        for automaton in some_automata(42, 40, sizes=(2, 3)):
            late = one_changed(chance, automaton)
            answers += [self.check(automaton, late), self.check(late, automaton)]
        self.assertGreater(answers.count(True), 10)
        self.assertGreater(answers.count(False), 10)

    def test_written_otherwise(self):
        chance = random.Random(43)
        for automaton in some_automata(43, 30):
            for late in (automaton, mixed(chance, automaton), normal(automaton), automaton.trimmed(),
                         determinize(automaton), determinize(determinize(automaton))):
                for one, other in ((automaton, late), (late, automaton)):
                    self.assertIsNone(beyond(one, other))
                    self.assertIsNone(separating(one, other))
                    self.assertIs(within(one, other), True)
                    self.assertIs(same_words(one, other), True)

    def test_all_and_none(self):
        for automaton in some_automata(44, 40):
            self.assertIs(within(NONE, automaton), True)
            self.assertIs(within(automaton, ALL), True)
            self.assertIs(within(ALL, automaton), refused_word(automaton) is None)
            self.assertIs(within(automaton, NONE), accepted_word(automaton) is None)
        self.assertEqual([same_words(ALL, NONE), within(NONE, ALL), within(ALL, NONE)], [False, True, False])

    def test_known_ones(self):
        # The letter b only finitely often, and the letter a only finitely often.
        few = Automaton.deterministic("ab", [[(0, "safe"), (0, "slip")]])
        rare = Automaton.deterministic("ab", [[(0, "slip"), (0, "safe")]])
        self.assertEqual(str(beyond(few, rare) >> 9), "(a)")
        self.assertEqual(str(beyond(one=rare, other=few) >> 9), "(b)")
        either = Automaton("ab", 3, [(0, "a", 1, "slip"), (0, "a", 2, "slip"), (0, "b", 1, "slip"), (0, "b", 2, "slip"),
                                     (1, "a", 1, "safe"), (1, "b", 1, "slip"), (2, "a", 2, "slip"), (2, "b", 2, "safe")])
        self.assertEqual([within(few, either), within(rare, either), within(either, few)], [True, True, False])
        self.assertEqual(str(beyond(either, few) >> 9), "(b)")
        self.assertEqual(str(separating(either, few) >> 9), "(b)")
        self.assertEqual(str(separating(few, either) >> 9), "(b)")

    def test_long_ways(self):
        # One of them slips only once on its circle of 64 letters, the other one on one of 65.
        one = Automaton.deterministic("a", [[((at + 1) % 64, "safe")] for at in range(64)])
        other = Automaton.deterministic("a", [[((at + 1) % 65, "slip" if at == 64 else "safe")] for at in range(65)])
        self.assertEqual([str(beyond(one, other)), beyond(other, one), str(separating(other, one))],
                         ["(a)", None, "(a)"])
        rows = [[(at + 1, "slip"), (0, "slip")] for at in range(63)]
        deep = Automaton.deterministic("ab", [*rows, [(63, "safe"), (0, "slip")]])
        self.assertEqual(str(accepted_word(deep)), "(a)")


class OneTest(unittest.TestCase):
    def test_accepted_and_refused_words(self):
        nothing = everything = 0
        for automaton in some_automata(45, 120, ("ab", "a", "xy"), (1, 2, 3)):
            answers = [really_accepts(automaton, prefix, loop) for prefix, loop in writings(automaton.alphabet, 2, 3)]
            for lasso, wanted in ((accepted_word(automaton), True), (refused_word(automaton=automaton), False)):
                if lasso is None:
                    self.assertNotIn(wanted, answers)
                else:
                    self.assertIs(really_accepts(automaton, lasso.prefix, lasso.loop), wanted)
            nothing += accepted_word(automaton) is None
            everything += refused_word(automaton) is None
        self.assertGreater(min(nothing, everything), 3)

    def test_all_and_none(self):
        for alphabet in ("a", "bz", "abc"):
            self.assertIsNone(accepted_word(constant(alphabet, "slip")))
            self.assertIsNone(refused_word(constant(alphabet, "safe")))
            self.assertIs(type(accepted_word(constant(alphabet, "safe"))), Lasso)
            self.assertIs(type(refused_word(constant(alphabet, "slip"))), Lasso)
        # Safe transitions that no circle takes, and states that cannot be reached.
        loose = Automaton("a", 3, [(0, "a", 1, "safe"), (1, "a", 1, "slip"), (2, "a", 2, "safe")])
        self.assertIsNone(accepted_word(loose))
        self.assertEqual(str(refused_word(loose)), "(a)")
        self.assertIsNone(refused_word(loose.begun_at(2)))


class RefusedTest(unittest.TestCase):
    def test_different_alphabets(self):
        for alphabet in ("a", "b", "ac", "bc", "abc"):
            other = constant(alphabet, "safe")
            for call in PAIRS:
                raised(self, DifferentAlphabets, {}, call, ALL, other)
                raised(self, DifferentAlphabets, {}, call, other, ALL)
                for bad in BAD[:2]:
                    raised(self, DifferentAlphabets, {}, call, other, bad)
                    raised(self, DifferentAlphabets, {}, call, bad, other)

    def test_whose_tracker_counts(self):
        for bad in BAD:
            for call in PAIRS:
                for other in (ALL, NONE, GOOD[0], bad):
                    raised(self, TooMany, {"most": 65}, call, other, bad)
            for call in (separating, same_words):
                for other in (ALL, NONE, GOOD[0]):
                    raised(self, TooMany, {"most": 65}, call, bad, other)
            raised(self, TooMany, {"most": 65}, refused_word, bad)
            self.assertIs(within(bad, ALL), True)
            self.assertIsNone(beyond(bad, ALL))
            for lasso in (accepted_word(bad), beyond(bad, NONE)):
                self.assertTrue(really_accepts(bad, lasso.prefix, lasso.loop))
            lasso = beyond(bad, GOOD[0])
            self.assertIs(within(bad, GOOD[0]), lasso is None)
            if lasso is not None:
                self.assertTrue(really_accepts(bad, lasso.prefix, lasso.loop))
                self.assertFalse(really_accepts(GOOD[0], lasso.prefix, lasso.loop))

    def test_trackers_that_are_just_small_enough(self):
        for good in GOOD:
            self.assertIs(same_words(good, good), True)
            self.assertIs(same_words(good, determinize(good)), True)
            self.assertIs(within(determinize(good), good), True)
            for lasso, wanted in ((refused_word(good), False), (accepted_word(good), True)):
                if lasso is not None:
                    self.assertIs(really_accepts(good, lasso.prefix, lasso.loop), wanted)
            for other in GOOD:
                lasso = separating(good, other)
                if lasso is not None:
                    self.assertNotEqual(really_accepts(good, lasso.prefix, lasso.loop),
                                        really_accepts(other, lasso.prefix, lasso.loop))

    def test_a_deterministic_automaton_raises_nothing(self):
        ring = Automaton.deterministic("ab", [[((at + 1) % 65, "safe"), (at, "slip")] for at in range(65)])
        late = Automaton.deterministic("ab", [[((at + 2) % 65, "slip"), (at, "safe")] for at in range(65)])
        self.assertEqual([same_words(ring, ring), within(ring, late), within(late, ring)], [True, False, False])
        self.assertFalse(really_accepts(ring, refused_word(ring).prefix, refused_word(ring).loop))


if __name__ == "__main__":
    unittest.main()
