"""lastslip/papers.py: certificates by themselves, and those that are found."""

import random
import unittest
from itertools import product

from lastslip.automata import Automaton
from lastslip.errors import TooMany, WrongPaper
from lastslip.papers import Harmful, Harmless, harmless, used
from lastslip.trackers import determinize

from oracles import harmful_holds, harmless_holds, really_harmless
from samples import (GREAT, NOTHINGS, NUMBERS, WRONG_STRINGS, doubled, in_a_row, raised, random_automaton, really_accepts,
                     some_automata, writings, written)

SHORT = writings("ab", 2, 3)
ONE = Automaton.deterministic("ab", [[(0, "safe"), (0, "slip")]])
# The letter a only finitely often, or the letter b: the first transition has to guess which.
GUESS = written("ab", 3, 0, "0a1! 0a2! 0b1! 0b2! 1a1 1b1! 2a2! 2b2")
# The guess is harmless, as it can be made again behind each slip.
AGAIN = written("ab", 2, 0, "0a0 0b0! 0b1! 1b1 1a0! 1a1!")


class ValuesTest(unittest.TestCase):
    """The certificates by themselves."""

    def lists(self, paper):
        return [paper.moves() if type(paper) is Harmless else paper.letters(), paper.ranks()]

    def test_any_values(self):
        no_lists = [None, True, 5, "", "ab", [1], ["a"], [[0, 0, 0]], ((0,), [0]), [(), None], [(0, 0, 0), True]]
        lists = [[], (), [()], [(0,)], ((1, "a"), ()), [(0, 0, "a", 0)], ((0, [1, ([],)]), (True,))]
        for made in (Harmless, Harmful):
            for tracker in (ONE, *NOTHINGS, *NUMBERS, *WRONG_STRINGS):
                for value in no_lists:
                    self.assertEqual(self.lists(made(tracker, value, value)), [None, None])
                    self.assertEqual(self.lists(made(tracker, [(1,)], value)), [[(1,)], None])
                    self.assertIs(made(tracker, value, [(0, 0, 0), (0, 0, 0, 0)]).holds(ONE), False)
                for value in lists:
                    paper = made(tracker, value, [])
                    self.assertEqual(self.lists(paper), [list(value), []])
                    self.assertEqual(self.lists(made(tracker, [], value)), [[], list(value)])
                    self.assertIs(made(tracker, value, value).holds(ONE), False)
                self.assertIs(type(made(tracker, (), ()).ranks()), list)
                self.assertEqual(repr(made(tracker, 1, 1).tracker), repr(tracker))
        self.assertEqual(Harmless(ranks=[], moves=[(3,)], tracker=0).moves(), [(3,)])
        self.assertEqual(Harmful(ranks=[], letters=[(3,)], tracker=0).letters(), [(3,)])

    def test_told_and_repr(self):
        self.assertEqual([Harmless(ONE, [], []).told(), Harmful(None, 7, "a").told()], ["harmless", "harmful"])
        self.assertEqual([repr(Harmless(ONE, None, [])), repr(Harmful(5, "a", [()]))],
                         ["harmless with 0 rows", "harmful with 0 rows"])
        for many in (0, 1, 2, 15):
            rows = [(0, 0, "a", 0)] * many
            self.assertEqual(repr(Harmless(ONE, rows, [(0, 0, 0)])), f"harmless with {many} rows")
            self.assertEqual(repr(Harmful(ONE, tuple(rows), [])), f"harmful with {many} rows")

    def test_lists_are_copied_and_new(self):
        for made in (Harmless, Harmful):
            rows, ranks, tracker = [(0, 0, "a", 0)], [(0, 0, 0)], [[1]]
            paper = made(tracker, rows, ranks)
            rows.append(5)
            ranks.clear()
            tracker[0].append(2)
            for _ in range(2):
                self.assertEqual(self.lists(paper), [[(0, 0, "a", 0)], [(0, 0, 0)]])
                self.assertEqual(paper.tracker, [[1]])
                for found in self.lists(paper):
                    found.append(9)
                    found[0] = None
            deep = made(None, [(0, [1])], [])
            self.lists(deep)[0][0][1].append(7)
            self.assertEqual(self.lists(deep)[0], [(0, [1])])

    def test_equality(self):
        for made in (Harmless, Harmful):
            other = Automaton.deterministic("ab", [[(0, "safe"), (0, "safe")]])
            values = [(ONE, [(0, 0, "a")], [(0, 0, 0)]), (other, [(0, 0, "a")], [(0, 0, 0)]),
                      (ONE, [(0, 0, "b")], [(0, 0, 0)]), (ONE, [(0, 0, "a")], [(0, 0, 1)]),
                      (ONE, [(0, 0, "a")], [(0, 0, True)]), (ONE, [(0, 0, "a")] * 2, [(0, 0, 0)]),
                      (ONE, [], [(0, 0, 0)]), (ONE, [(0, 0, "a")], None), (None, [], []), (0, [], []),
                      (False, [], []), ("", [], []), ((), [], []), ([], [], []), (ONE, [(0,), (1,)], []),
                      (ONE, [(1,), (0,)], []), (ONE, [((),)], []), (ONE, [([],)], []), (ONE, None, None)]
            for at, one in enumerate(values):
                for late, two in enumerate(values):
                    self.assertIs(made(*one) == made(*two), at == late, (one, two))
                    self.assertIs(made(*one) != made(*two), at != late)
            same = Automaton("ab", 1, ONE.transitions())
            self.assertEqual(made(ONE, [(0, 1)], [(2,)]), made(same, ((0, 1),), ((2,),)))
            self.assertNotEqual(made(ONE, [], []), (ONE, [], []))
            self.assertNotEqual(made(ONE, [], []), None)
        self.assertNotEqual(Harmless(ONE, [], []), Harmful(ONE, [], []))
        self.assertNotEqual(Harmful(ONE, [], []), Harmless(ONE, [], []))


class FoundTest(unittest.TestCase):
    """The certificates of harmless."""

    def check(self, automaton):
        paper = harmless(automaton)
        found = really_harmless(automaton)
        self.assertIs(type(paper), Harmless if found else Harmful)
        self.assertEqual(paper.tracker, determinize(automaton))
        self.assertIs(paper.holds(automaton), True)
        lassos = SHORT if automaton.alphabet == "ab" else writings(automaton.alphabet, 1, 3)
        if found:
            self.assertTrue(harmless_holds(automaton, paper.tracker, paper.moves(), paper.ranks(), lassos))
        else:
            self.assertTrue(harmful_holds(automaton, paper.tracker, paper.letters(), paper.ranks(), lassos))
        return found

    def test_all_kinds_of_automata(self):
        for alphabet, many in (("a", 15), ("ab", 90), ("xyz", 15)):
            automata = some_automata(60 + many, many, (alphabet,), (2, 3, 4), 8)
            answers = [self.check(automaton) for automaton in automata]
            self.assertGreater(answers.count(True), 5)
            if alphabet == "ab":
                self.assertGreater(answers.count(False), 10)

    def test_guesses_with_the_first_letter(self):
        chance = random.Random(62)
        answers = []
        for _ in range(60):
            pieces = [random_automaton(chance, "ab", 2, 0, 6) for _ in range(2)]
            rows = [(0, letter, 1 + 2 * at + chance.randrange(2), "slip") for at in range(2) for letter in "ab"]
            for at, piece in enumerate(pieces):
                rows += [(source + 1 + 2 * at, letter, target + 1 + 2 * at, kind)
                         for source, letter, target, kind in piece.transitions()]
            answers.append(self.check(Automaton("ab", 5, rows)))
        self.assertGreater(answers.count(True), 10)
        self.assertGreater(answers.count(False), 10)

    def test_known_ones(self):
        self.assertIs(self.check(ONE), True)
        self.assertIs(self.check(GUESS), False)
        self.assertIs(self.check(AGAIN), True)
        self.assertIs(self.check(GUESS.begun_at(1)), True)
        for before in (1, 5, 20):
            self.assertIs(self.check(in_a_row(before, GUESS)), False)
            self.assertIs(self.check(in_a_row(before, AGAIN)), True)

    def test_copies(self):
        chance = random.Random(63)
        for automaton in (ONE, GUESS, AGAIN, *some_automata(64, 20, sizes=(2, 3), more=3)):
            self.assertIs(self.check(doubled(chance, automaton)), self.check(automaton))

    def test_many_ranks(self):
        # The hand has to slip on each of so many letters, and then never again.
        for many in (2, 10, 64):
            rows = [(at, letter, at + 1, "slip") for at in range(many) for letter in "ab"]
            chain = Automaton("ab", many + 1, rows + [(many, "a", many, "safe"), (many, "b", many, "slip")])
            self.assertIs(self.check(chain), True)
        # A slip may be put off for as long as the hand likes, so often.
        rows = [(at, "a", at, "safe") for at in range(8)] + [(at, "b", min(at + 1, 7), "slip") for at in range(8)]
        self.assertIs(self.check(Automaton("ab", 8, rows)), True)
        rows += [(0, "b", 4, "slip"), (2, "a", 7, "slip"), (7, "b", 0, "slip")]
        self.assertIs(self.check(Automaton("ab", 8, rows)), True)

    def test_too_many(self):
        for many, automaton in GREAT:
            if many > 65:
                raised(self, TooMany, {"most": 65}, harmless, automaton)
                raised(self, TooMany, {"most": 65}, harmless, automaton=automaton)
            else:
                self.assertIs(harmless(automaton).holds(automaton), True)
        for size in (64, 65):
            ring = Automaton.deterministic("a", [[((at + 1) % size, "slip" if at else "safe")] for at in range(size)])
            self.assertEqual(len(harmless(ring).moves()), size)


class PlayTest(unittest.TestCase):
    """What the certificates promise of hands."""

    def slips(self, automaton, paper, word):
        """How many slips the moves of a Harmless make on a word."""
        kinds = {row[:3]: row[3] for row in automaton.transitions()}
        moves = {row[:3]: row[3] for row in paper.moves()}
        state, tracked, slips = automaton.initial, paper.tracker.initial, []
        for letter in word:
            target = moves[state, tracked, letter]
            slips.append(kinds[state, letter, target] == "slip")
            state, tracked = target, paper.tracker.targets(tracked, letter)[0]
        return slips

    def test_hands_that_follow_the_moves(self):
        accepted = 0
        for automaton in some_automata(65, 60, sizes=(2, 3), more=5):
            paper = harmless(automaton)
            if type(paper) is Harmless:
                positions = automaton.size * paper.tracker.size
                for prefix, loop in writings("ab", 1, 3):
                    slips = self.slips(automaton, paper, prefix + loop * 2 * positions)
                    if really_accepts(automaton, prefix, loop):
                        self.assertFalse(any(slips[len(prefix) + len(loop) * positions:]))
                        accepted += 1
        self.assertGreater(accepted, 300)

    def test_opponents_beat_hands(self):
        chance = random.Random(66)
        beaten = 0
        for automaton in [GUESS, in_a_row(3, GUESS), *some_automata(67, 60, sizes=(3, 4), more=8)]:
            paper = harmless(automaton)
            if type(paper) is Harmful:
                letters = {row[:2]: row[2] for row in paper.letters()}
                for greed in (0, 5, 10):
                    slips, resets = self.beaten(chance, automaton, paper.tracker, letters, greed)
                    beaten += 1
                    self.assertGreater(slips, 5)
                    self.assertLessEqual(resets, automaton.size * paper.tracker.size)
        self.assertGreater(beaten, 20)

    def beaten(self, chance, automaton, tracker, letters, greed):
        """How often a hand slips that likes safe transitions, and how often the tracker does."""
        state, tracked, slips, resets = automaton.initial, tracker.initial, 0, 0
        for _ in range(30 * automaton.size * tracker.size):
            letter = letters[state, tracked]
            tracked, kind = tracker.moves(tracked, letter)[0]
            resets += kind == "slip"
            moves = automaton.moves(state, letter)
            calm = [move for move in moves if move[1] == "safe"]
            state, kind = chance.choice(calm if calm and chance.randrange(10) < greed else moves)
            slips += kind == "slip"
        return slips, resets


class UsedTest(unittest.TestCase):
    def test_used_transitions(self):
        fewer = 0
        for automaton in [ONE, AGAIN, *some_automata(68, 80, ("ab", "xyz"), (2, 3), 6)]:
            paper = harmless(automaton)
            if type(paper) is Harmful:
                raised(self, WrongPaper, {}, used, automaton, paper)
                continue
            moves = {row[:3]: row[3] for row in paper.moves()}
            found, positions = set(), {(automaton.initial, paper.tracker.initial)}
            for _ in range(automaton.size * paper.tracker.size):
                for (state, tracked), letter in product(sorted(positions), automaton.alphabet):
                    target = moves[state, tracked, letter]
                    found.add((state, letter, target))
                    positions.add((target, paper.tracker.targets(tracked, letter)[0]))
            wanted = [row for row in automaton.transitions() if row[:3] in found]
            self.assertEqual(used(automaton, paper), wanted)
            fewer += len(wanted) < len(automaton.transitions())
        self.assertGreater(fewer, 20)

    def test_positions_that_are_not_reached(self):
        # The position (1, 0) has a rank and a move, but no move leads to it.
        automaton = written("a", 2, 0, "0a0 1a0 1a1")
        paper = Harmless(Automaton.deterministic("a", [[(0, "safe")]]), [(1, 0, "a", 1), (0, 0, "a", 0)],
                         [(0, 0, 0), (1, 0, 0)])
        self.assertIs(paper.holds(automaton), True)
        self.assertEqual(used(automaton, paper), [(0, "a", 0, "safe")])

    def test_wrong_papers(self):
        good = harmless(AGAIN)
        for value in [*NOTHINGS, *NUMBERS, *WRONG_STRINGS, harmless(GUESS), Harmful(good.tracker, [], []), ONE,
                      Harmless(good.tracker, good.moves()[1:], good.ranks()), Harmless(None, [], []), harmless(ONE)]:
            raised(self, WrongPaper, {}, used, AGAIN, value)
            raised(self, WrongPaper, {}, used, paper=value, automaton=AGAIN)
        raised(self, WrongPaper, {}, used, GUESS, good)
        self.assertEqual(used(AGAIN, good), used(paper=good, automaton=AGAIN))


if __name__ == "__main__":
    unittest.main()
