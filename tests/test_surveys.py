"""lastslip/surveys.py."""

import random
import unittest

from lastslip.automata import Automaton
from lastslip.components import normal
from lastslip.errors import InvalidState, InvalidWord, NotDeterministic, StrangeLetter
from lastslip.surveys import Survey
from lastslip.words import Lasso

from oracles import accepted_lassos, real_components, real_safe_words
from samples import (NOTHINGS, WRONG_STRINGS, doubled, raised, random_automaton, random_deterministic, strings,
                     writings, written)

SHORT = writings("ab", 2, 3)
MOST = 5


def deterministic(seed, many, sizes=(1, 2, 3, 4)):
    """So many deterministic automata; some of them have two copies of each state."""
    chance = random.Random(seed)
    found = []
    for at in range(many):
        automaton = random_deterministic(chance, "ab", chance.choice(sizes), chance.choice((3, 6, 9)))
        found.append(doubled(chance, automaton) if at % 3 == 0 else automaton)
    return found


def pairs(automaton):
    return [(one, other) for one in range(automaton.size) for other in range(automaton.size)]


class MadeTest(unittest.TestCase):
    def test_the_automaton_is_the_normal_form(self):
        for automaton in deterministic(50, 60):
            survey = Survey(automaton)
            self.assertEqual(survey.automaton, normal(automaton))
            self.assertEqual(Survey(automaton=survey.automaton).automaton, survey.automaton)

    def test_not_deterministic(self):
        chance = random.Random(51)
        seen = 0
        for _ in range(120):
            automaton = random_automaton(chance, chance.choice(("a", "ab", "xyz")), chance.choice((2, 3, 5)),
                                         chance.randrange(4), 5)
            several = [(state, letter) for state in range(automaton.size) for letter in automaton.alphabet
                       if len(automaton.moves(state, letter)) > 1]
            if several:
                raised(self, NotDeterministic, {"state": several[0][0], "letter": several[0][1]}, Survey, automaton)
                seen += 1
            else:
                self.assertEqual(Survey(automaton).automaton.size, automaton.size)
        self.assertGreater(seen, 40)
        # A state that cannot be reached counts, too.
        loose = Automaton("ab", 2, [(0, "a", 0, "safe"), (0, "b", 0, "slip"), (1, "a", 1, "safe"),
                                    (1, "b", 0, "slip"), (1, "b", 1, "safe")])
        raised(self, NotDeterministic, {"state": 1, "letter": "b"}, Survey, loose)


class WordsTest(unittest.TestCase):
    def test_infinite_words(self):
        answers = []
        for automaton in deterministic(52, 40):
            survey = Survey(automaton)
            words = [accepted_lassos(automaton, state, SHORT) for state in range(automaton.size)]
            for one, other in pairs(automaton):
                lasso = survey.lasso_apart(one, other)
                answers.append(survey.kin(one, other))
                self.assertIs(answers[-1], lasso is None)
                if lasso is None:
                    self.assertEqual(words[one], words[other])
                else:
                    self.assertIs(type(lasso), Lasso)
                    found = [accepted_lassos(automaton, state, [(lasso.prefix, lasso.loop)]) for state in (one, other)]
                    self.assertNotEqual(found[0], found[1])
        self.assertGreater(min(answers.count(True), answers.count(False)), 20)

    def test_safe_words(self):
        answers = []
        for automaton in deterministic(53, 50):
            survey = Survey(automaton)
            words = [real_safe_words(automaton, state, MOST) for state in range(automaton.size)]
            for state in range(automaton.size):
                read = [word for word in strings("ab", 0, MOST) if survey.is_safe(state, word)]
                self.assertEqual(read, words[state])
            for one, other in pairs(automaton):
                apart = [word for word in strings("ab", 0, MOST) if (word in words[one]) != (word in words[other])]
                self.assertEqual(survey.word_apart(one, other), apart[0] if apart else None)
                answers.append(survey.safe_within(one, other))
                self.assertIs(answers[-1], set(words[one]) <= set(words[other]))
        self.assertGreater(min(answers.count(True), answers.count(False)), 100)

    def test_below_and_alike(self):
        seen = {}
        for automaton in deterministic(54, 60):
            survey = Survey(automaton)
            for one, other in pairs(automaton):
                below = survey.kin(one, other) and survey.safe_within(one, other)
                above = survey.kin(other, one) and survey.safe_within(other, one)
                self.assertIs(survey.below(one, other), below)
                self.assertIs(survey.alike(one, other), below and above)
                if one != other:
                    key = (survey.kin(one, other), survey.safe_within(one, other), below, above)
                    seen[key] = seen.get(key, 0) + 1
        self.assertGreater(len(seen), 5)
        self.assertGreater(min(seen.values()), 3)

    def test_copies_are_alike(self):
        chance = random.Random(55)
        for _ in range(20):
            automaton = random_deterministic(chance, "ab", 3, 6)
            survey = Survey(doubled(chance, automaton))
            for state in range(3):
                if survey.rank(state) == survey.rank(state + 3):
                    self.assertIs(survey.alike(state, state + 3), True)
                self.assertIs(survey.kin(state, state + 3), True)

    def test_ranks(self):
        different = 0
        for automaton in deterministic(56, 60, (1, 2, 3, 5)):
            survey = Survey(automaton)
            keys = [[word not in found for word in strings("ab", 0, MOST)]
                    for found in (set(real_safe_words(automaton, state, MOST)) for state in range(automaton.size))]
            for state in range(automaton.size):
                before = {tuple(key) for key in keys if key < keys[state]}
                self.assertEqual(survey.rank(state), len(before))
                different += len(before) > 1
        self.assertGreater(different, 20)

    def test_long_words(self):
        # Only behind 64 letters it shows which state is which.
        rows = [[(at + 1, "safe"), (at, "safe")] for at in range(64)]
        chain = Automaton.deterministic("ab", [*rows, [(0, "slip"), (0, "safe")]])
        survey = Survey(chain)
        self.assertEqual([survey.word_apart(0, 1), survey.word_apart(64, 0), survey.word_apart(5, 5)],
                         ["a" * 64, "a", None])
        self.assertEqual([survey.rank(state) for state in range(65)], list(range(65)))
        self.assertEqual([survey.safe_within(0, 64), survey.safe_within(64, 0)], [False, True])
        self.assertEqual([survey.is_safe(0, "a" * 64), survey.is_safe(0, "a" * 65), survey.is_safe(0, "b" * 200)],
                         [True, False, True])


class ListsTest(unittest.TestCase):
    def reached(self, automaton):
        """The reachable states, in the order of the first words that lead to them."""
        found = []
        for word in strings(automaton.alphabet, 0, automaton.size):
            state = automaton.initial
            for letter in word:
                state = automaton.targets(state, letter)[0]
            if state not in found:
                found.append(state)
        return found

    def check(self, automaton):
        survey = Survey(automaton)
        reached = self.reached(automaton)
        firsts = [state for at, state in enumerate(reached)
                  if not any(survey.kin(state, other) for other in reached[:at])]
        groups = [[state for state in sorted(reached) if survey.kin(state, first)] for first in firsts]
        self.assertEqual(survey.groups(), groups)
        parts = [list(part) for part in real_components(automaton) if part[0] in reached]
        kept = []
        for part in parts:
            covers = [other for other in parts if any(survey.below(one, late) for one in part for late in other)]
            tied = [other for other in covers if any(survey.below(one, late) for one in other for late in part)]
            if covers == tied and part == min(tied):
                kept.append(part)
        self.assertEqual(survey.kept(), kept)
        return len(kept), len(parts), len(groups)

    def test_groups_and_kept_components(self):
        found = [self.check(automaton) for automaton in deterministic(57, 70)]
        for automaton in deterministic(58, 15):
            found += [self.check(automaton.begun_at(state)) for state in range(automaton.size)]
        self.assertGreater(len([row for row in found if row[0] < row[1]]), 20)
        self.assertGreater(len([row for row in found if row[0] > 1]), 20)
        self.assertGreater(len([row for row in found if row[2] > 1]), 20)

    def test_the_order_of_groups(self):
        # The letter b leads to a smaller state than the letter a.
        automaton = Automaton.deterministic("ab", [[(0, "safe"), (0, "safe")], [(2, "slip"), (0, "slip")],
                                                   [(2, "slip"), (2, "slip")]], initial=1)
        self.assertEqual(Survey(automaton).groups(), [[1], [2], [0]])
        self.assertEqual(Survey(automaton).kept(), [[0], [1], [2]])
        self.assertEqual(Survey(automaton.begun_at(0)).groups(), [[0]])
        self.assertEqual(Survey(automaton.begun_at(2)).kept(), [[2]])

    def test_tied_components(self):
        # Two components with the same words: the one with the least state is kept, also if another comes first.
        automaton = Automaton.deterministic("ab", [[(2, "slip"), (1, "slip")], [(1, "safe"), (2, "slip")],
                                                   [(2, "safe"), (1, "slip")]])
        self.assertEqual(Survey(automaton).kept(), [[1]])
        self.assertEqual(Survey(automaton).groups(), [[0, 1, 2]])
        self.assertEqual(Survey(automaton.begun_at(2)).kept(), [[1]])

    def test_tied_components_with_states_between_each_other(self):
        # The letter b only finitely often: the letter a goes round 0 and 3, or 1 and 2, or 4.
        for initial in range(5):
            automaton = written("ab", 5, initial, "0a3 0b1! 3a0 3b2! 1a2 1b4! 2a1 2b0! 4a4 4b3!")
            self.assertEqual(Survey(automaton).kept(), [[0, 3]])
            self.assertEqual(Survey(automaton).groups(), [[0, 1, 2, 3, 4]])
        late = written("ab", 4, 0, "0a3 0b1! 3a0 3b2! 1a2 1b0! 2a1 2b3!")
        self.assertEqual(Survey(late).kept(), [[0, 3]])
        self.assertEqual(Survey(late.renumbered([1, 0, 3, 2])).kept(), [[0, 3]])

    def test_the_lists_are_new(self):
        for automaton in deterministic(59, 10):
            survey = Survey(automaton)
            for call in (survey.groups, survey.kept):
                first = call()
                kept = [list(part) for part in first]
                first[0].append(7)
                first.append("x")
                self.assertEqual(call(), kept)


class RefusedTest(unittest.TestCase):
    def setUp(self):
        self.survey = Survey(Automaton.deterministic("ac", [[(1, "safe"), (0, "slip")], [(0, "safe"), (1, "slip")]]))
        self.wrong = [*NOTHINGS, -1, 2, 10 ** 29, "0", "a"]

    def test_states(self):
        survey = self.survey
        for value in self.wrong:
            for call in (survey.kin, survey.safe_within, survey.below, survey.alike, survey.lasso_apart,
                         survey.word_apart):
                raised(self, InvalidState, {"given": value}, call, value, 1)
                raised(self, InvalidState, {"given": value}, call, 0, value)
                raised(self, InvalidState, {"given": value}, call, one=value, other="x")
            raised(self, InvalidState, {"given": value}, survey.rank, value)
            raised(self, InvalidState, {"given": value}, survey.rank, state=value)

    def test_words(self):
        survey = self.survey
        for state in self.wrong:
            raised(self, InvalidState, {"given": state}, survey.is_safe, state, "a")
            raised(self, InvalidState, {"given": state}, survey.is_safe, state, None)
            raised(self, InvalidState, {"given": state}, survey.is_safe, state, "bz")
        for word in [*NOTHINGS, *WRONG_STRINGS, 5, "a" * 201]:
            raised(self, InvalidWord, {"given": word}, survey.is_safe, 1, word)
        for word, letter in (("b", "b"), ("aczb", "z"), ("aad", "d"), ("cb", "b")):
            raised(self, StrangeLetter, {"given": letter}, survey.is_safe, state=0, word=word)
        self.assertIs(survey.is_safe(0, "a" * 200), True)
        self.assertIs(survey.is_safe(1, ""), True)
        self.assertIs(survey.is_safe(1, "ac"), False)


if __name__ == "__main__":
    unittest.main()
