"""lastslip/judging.py."""

import unittest
from itertools import product

from lastslip.automata import Automaton
from lastslip.errors import DifferentAlphabets, TooMany
from lastslip.judging import Parted, can_stand_for, judge
from lastslip.least import least
from lastslip.papers import Harmful, Harmless
from lastslip.relations import beyond, same_words
from lastslip.words import Lasso

from oracles import really_harmless
from samples import GREAT, NOTHINGS, NUMBERS, WRONG_STRINGS, doubled, raised, really_accepts, some_automata, written

ALL = Automaton.deterministic("ab", [[(0, "safe"), (0, "safe")]])
NONE = Automaton.deterministic("ab", [[(0, "slip"), (0, "slip")]])
FEW = Automaton.deterministic("ab", [[(0, "safe"), (0, "slip")]])
EITHER = written("ab", 3, 0, "0a1 0b1! 0a2! 0b2 1a1 1b1! 2a2! 2b2")
VALUES = [*NOTHINGS, *NUMBERS, *WRONG_STRINGS, "(a)", Lasso("", "a")]


class PartedTest(unittest.TestCase):
    def test_any_values(self):
        for lasso, accepted in product(VALUES, VALUES):
            parted = Parted(lasso, accepted)
            self.assertEqual(repr((parted.lasso, parted.accepted)), repr((lasso, accepted)))
            self.assertEqual(parted.told(), "parted")
            self.assertEqual(repr(parted), f"parted by {lasso}")
            good = isinstance(lasso, Lasso) and accepted is True
            self.assertIs(parted.holds(FEW, NONE), good)
            self.assertIs(parted.holds(NONE, FEW), isinstance(lasso, Lasso) and accepted is False)
        parted = Parted(accepted=True, lasso=Lasso("ba", "ab"))
        self.assertEqual([repr(parted), parted.accepted], ["parted by ba(ab)", True])
        self.assertEqual(repr(Parted(Lasso("a", "b"), False)), "parted by a(b)")

    def test_values_are_copied(self):
        given = [["a"]]
        parted = Parted(given, given)
        given[0].append(1)
        self.assertEqual([parted.lasso, parted.accepted], [[["a"]], [["a"]]])

    def test_equality(self):
        values = [Lasso("", "a"), Lasso("", "b"), "(a)", True, False, 0, 1, None, (), [], ("a",), ["a"], (1,), (True,)]
        for one, other in product(product(range(len(values)), repeat=2), repeat=2):
            same = Parted(values[one[0]], values[one[1]]) == Parted(values[other[0]], values[other[1]])
            self.assertIs(same, one == other)
        self.assertEqual(Parted(Lasso("a", "aa"), True), Parted(Lasso("", "a"), True))
        self.assertNotEqual(Parted(Lasso("", "a"), True), (Lasso("", "a"), True))
        self.assertNotEqual(Parted(None, None), None)

    def test_holds(self):
        automata = some_automata(120, 14, sizes=(1, 2, 3))
        for one, other in zip(automata, automata[1:]):
            for text in ("(a)", "(b)", "b(ab)", "(aab)"):
                lasso = Lasso.of_text(text)
                first, second = [really_accepts(automaton, lasso.prefix, lasso.loop) for automaton in (one, other)]
                for accepted in (True, False):
                    self.assertIs(Parted(lasso, accepted).holds(one, other), first == accepted and second != accepted)
        self.assertIs(Parted(Lasso("", "b"), False).holds(automaton=FEW, wanted=ALL), True)

    def test_letters_and_alphabets(self):
        for text in ("(c)", "c(a)", "a(ac)", "z(b)"):
            for accepted in (True, False):
                self.assertIs(Parted(Lasso.of_text(text), accepted).holds(ALL, NONE), False)
                self.assertIs(Parted(Lasso.of_text(text), accepted).holds(NONE, ALL), False)
        wide = Automaton.deterministic("abc", [[(0, "safe")] * 3])
        for accepted in (True, False):
            self.assertIs(Parted(Lasso("", "a"), accepted).holds(wide, NONE), False)
            self.assertIs(Parted(Lasso("", "a"), accepted).holds(NONE, wide), False)
        self.assertIs(Parted(Lasso("", "c"), True).holds(wide, Automaton.deterministic("abc", [[(0, "slip")] * 3])), True)


class JudgeTest(unittest.TestCase):
    def check(self, automaton, wanted):
        """Checks both functions; tells the word of the judgement, and whether more is accepted."""
        found = judge(automaton, wanted)
        self.assertIs(can_stand_for(automaton, wanted), type(found) is Harmless)
        if same_words(automaton, wanted):
            self.assertIs(type(found), Harmless if really_harmless(automaton) else Harmful)
            self.assertIs(found.holds(automaton), True)
            return found.told()
        self.assertIs(type(found), Parted)
        self.assertIs(found.holds(automaton, wanted), True)
        self.assertIs(found.accepted, beyond(automaton, wanted) is not None)
        self.assertEqual([really_accepts(one, found.lasso.prefix, found.lasso.loop) for one in (automaton, wanted)],
                         [found.accepted, not found.accepted])
        return found.accepted

    def test_pairs(self):
        automata = some_automata(121, 80, sizes=(1, 2, 3), more=6)
        found = [self.check(one, other) for one, other in zip(automata, automata[1:])]
        for automaton in automata:
            found += [self.check(automaton, least(automaton)), self.check(least(automaton), automaton),
                      self.check(automaton, automaton)]
        for word in (True, False, "harmless", "harmful"):
            self.assertGreater(found.count(word), 5)

    def test_known_ones(self):
        self.assertEqual([self.check(ALL, NONE), self.check(NONE, ALL), self.check(EITHER, EITHER),
                          self.check(least(EITHER), EITHER), self.check(EITHER, least(EITHER)), self.check(FEW, EITHER),
                          self.check(EITHER, FEW)], [True, False, "harmful", "harmless", "harmful", False, True])
        self.assertEqual(judge(wanted=FEW, automaton=EITHER), judge(EITHER, FEW))
        self.assertIs(can_stand_for(wanted=FEW, automaton=FEW), True)

    def test_smaller_automata_cannot_stand_for_the_least_one(self):
        small = [Automaton("ab", 1, [(0, letter, 0, kind) for letter, kind in zip("ab", kinds)])
                 for kinds in product(("safe", "slip"), repeat=2)]
        greater = 0
        for automaton in some_automata(122, 60, sizes=(2, 3), more=6):
            lean = least(automaton)
            for one in small:
                self.assertIs(can_stand_for(one, lean), lean.size == 1 and one == lean)
            greater += lean.size > 1
        self.assertGreater(greater, 10)

    def test_two_states_cannot_stand_for_three(self):
        # All automata with two states and one transition for each state and letter, and some more.
        automata = some_automata(123, 120, sizes=(2,), more=6)
        for letters in product(product((0, 1), ("safe", "slip")), repeat=4):
            automata.append(Automaton.deterministic("ab", [letters[:2], letters[2:]]))
        wanted = [least(automaton) for automaton in some_automata(124, 60, sizes=(3, 4), more=6)]
        wanted = [lean for lean in wanted if lean.size == 3][:4]
        self.assertEqual(len(wanted), 4)
        for one, lean in product(automata, wanted):
            self.assertIs(can_stand_for(one, lean), False)

    def test_all_automata_with_two_states_of_one_letter(self):
        targets = [{0: "safe"}, {0: "slip"}, {1: "safe"}, {1: "slip"}] + [
            {0: one, 1: other} for one, other in product(("safe", "slip"), repeat=2)]
        loop = written("a", 3, 0, "0a1! 1a2 2a2")
        stop = written("a", 1, 0, "0a0!")
        for first, second in product(targets, targets):
            rows = [(source, "a", target, kind) for source, row in ((0, first), (1, second))
                    for target, kind in row.items()]
            for initial in (0, 1):
                automaton = Automaton("a", 2, rows, initial=initial)
                self.assertEqual(self.check(automaton, loop),
                                 "harmless" if really_accepts(automaton, "", "a") else False)
                self.assertEqual(self.check(automaton, stop),
                                 True if really_accepts(automaton, "", "a") else "harmless")

    def test_errors(self):
        for alphabet in ("a", "ac", "abc"):
            other = Automaton.deterministic(alphabet, [[(0, "safe")] * len(alphabet)])
            for call in (judge, can_stand_for):
                for _, great in (GREAT[0], GREAT[-1]):
                    raised(self, DifferentAlphabets, {}, call, great, other)
                    raised(self, DifferentAlphabets, {}, call, other, great)
        for many, automaton in GREAT:
            for call in (judge, can_stand_for):
                for other in (ALL, NONE, FEW, automaton):
                    if many > 65:
                        raised(self, TooMany, {"most": 65}, call, automaton, other)
                        raised(self, TooMany, {"most": 65}, call, other, automaton)
            if many <= 65:
                self.check(automaton, ALL)
                self.check(NONE, automaton)


if __name__ == "__main__":
    unittest.main()
