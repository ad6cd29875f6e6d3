"""Every function that needs a tracker, with trackers of 65 and of 66 states; certificates and hands in turn."""

import unittest

from lastslip.automata import Automaton
from lastslip.boards import harm_board, plan, winner, Board
from lastslip.errors import TooMany
from lastslip.hands import Hand
from lastslip.judging import Parted, can_stand_for, judge
from lastslip.languages import Language
from lastslip.least import embedding, least, least_paper
from lastslip.library import Library
from lastslip.papers import Harmful, Harmless, harmless, used
from lastslip.relations import accepted_word, beyond, refused_word, same_words, separating, within
from lastslip.trackers import after, determinize, pairs_of
from lastslip.watches import Watch
from lastslip.wishes import read_wish
from lastslip.words import Lasso

from samples import GREAT, GREAT_TEXTS, NARROW, WIDE, raised, real_tracker, some_automata, written

ALL = written("ab", 1, 0, "0a0 0b0")
AUTOMATA = GREAT + [(many, read_wish(text).compiled("ab")) for many, text in GREAT_TEXTS]
GUESS = written("ab", 3, 0, "0a1 0a2! 0b1! 0b2 1a1 1b1! 2a2! 2b2")
AGAIN = written("ab", 2, 0, "0a0 0b0! 0b1! 1b1 1a0! 1a1!")
CALLS = [determinize, pairs_of, lambda automaton: after(automaton, ""), lambda automaton: after(automaton, "ab"),
         lambda automaton: beyond(ALL, automaton), lambda automaton: within(ALL, automaton),
         lambda automaton: separating(ALL, automaton), lambda automaton: separating(automaton, ALL),
         lambda automaton: same_words(ALL, automaton), lambda automaton: same_words(automaton, ALL),
         refused_word, harmless, least, least_paper, Hand.of_least, lambda automaton: judge(automaton, ALL),
         lambda automaton: judge(ALL, automaton), lambda automaton: can_stand_for(automaton, ALL),
         lambda automaton: can_stand_for(ALL, automaton), lambda automaton: judge(automaton, automaton), Language,
         lambda automaton: Watch(Language(automaton))]


class GreatTest(unittest.TestCase):
    def test_sizes(self):
        sizes = [many for many, _ in AUTOMATA]
        self.assertEqual([len(real_tracker(automaton)[0]) for _, automaton in AUTOMATA], sizes)
        self.assertGreaterEqual(min(sizes.count(65), sizes.count(66)), 4)

    def test_each_function(self):
        for many, automaton in AUTOMATA:
            for call in CALLS:
                if many > 65:
                    raised(self, TooMany, {"most": 65}, call, automaton)
                else:
                    call(automaton)

    def test_hands(self):
        for many, automaton in AUTOMATA:
            if many > 65:
                raised(self, TooMany, {"most": 65}, Hand.of, automaton)
            elif type(harmless(automaton)) is Harmless:
                self.assertEqual(Hand.of(automaton).paper.tracker.size, many)

    def test_libraries(self):
        for many, text in GREAT_TEXTS:
            library = Library("ab")
            library.put("x", text)
            self.assertEqual(library.automaton_of("x"), read_wish(text).compiled("ab"))
            if many > 65:
                raised(self, TooMany, {"most": 65}, library.language_of, "x")
                raised(self, TooMany, {"most": 65}, library.same)
            else:
                self.assertEqual(library.language_of("x").tracker.size, many)
                self.assertEqual(library.same(), [])

    def test_functions_that_need_none(self):
        board = Board([0], [(0, "a", 0)])
        for _, automaton in AUTOMATA:
            self.assertEqual(beyond(automaton, ALL), None)
            self.assertIs(within(automaton, ALL), True)
            accepted_word(automaton)
            self.assertIn(winner(board, automaton), (0, 1))
            self.assertIn(plan(board, automaton).player, (0, 1))
            self.assertIs(Parted(Lasso("", "a"), True).holds(automaton, automaton), False)
        # The tracker of the hand is small, but that of the automaton is not.
        paper = least_paper(NARROW)
        self.assertGreater(len(used(WIDE, paper)), 10)
        self.assertEqual(embedding(WIDE, paper), list(range(8)))
        self.assertEqual(len(Hand(WIDE, paper)), 0)

    def test_deterministic_automata(self):
        ring = Automaton.deterministic("ab", [[((at + 1) % 65, "safe"), (at, "slip")] for at in range(65)])
        for call in CALLS:
            call(ring)


class InTurnTest(unittest.TestCase):
    """Certificates and hands keep nothing of what they were asked before."""

    def test_certificates(self):
        automata = [GUESS, AGAIN, ALL, *some_automata(240, 12, ("ab", "a", "xyz"), (1, 2, 3), 4)]
        papers = [harmless(automaton) for automaton in automata] + [least_paper(automaton) for automaton in automata]
        wanted = [[paper.holds(automaton) for automaton in automata] for paper in papers]
        for at, automaton in enumerate(automata):
            self.assertIs(wanted[at][at], True)
            self.assertIs(papers[len(automata) + at].holds(least(automaton)), True)
        for late in (1, 2, 7):
            for at, paper in enumerate(papers):
                rows = [paper.holds(automata[(place * late) % len(automata)]) for place in range(len(automata))]
                self.assertEqual(rows, [wanted[at][(place * late) % len(automata)] for place in range(len(automata))])
        for paper in papers:
            rows = paper.moves() if type(paper) is Harmless else paper.letters()
            self.assertEqual(type(paper)(paper.tracker, rows, paper.ranks()), paper)

    def test_one_certificate_for_two_automata(self):
        # What the moves do not use may differ.
        other = Automaton("ab", 3, AGAIN.transitions() + [(2, "a", 0, "safe"), (2, "b", 1, "safe")])
        paper = harmless(AGAIN)
        for automaton in (AGAIN, other, AGAIN, GUESS, other, GUESS, AGAIN):
            self.assertIs(paper.holds(automaton), automaton is not GUESS)
        found = [used(automaton, paper) for automaton in (AGAIN, other, AGAIN)]
        self.assertEqual(found, [found[0]] * 3)
        self.assertEqual(embedding(AGAIN, paper), embedding(other, paper))
        bad = harmless(GUESS)
        boards = [harm_board(automaton, bad) for automaton in (GUESS, GUESS)]
        self.assertEqual(boards[0], boards[1])
        self.assertIs(type(bad), Harmful)
        self.assertEqual([bad.holds(automaton) for automaton in (GUESS, AGAIN, GUESS)], [True, False, True])

    def test_previews_at_a_time(self):
        hand = Hand.of(AGAIN)
        hand.read("ab")
        states = []
        for at in range(1, 6):
            late = hand.twin()
            late.read("babba"[:at])
            states.append(late.place)
        self.assertEqual(list(hand.preview("babba")), states)
        found = []
        for state in hand.preview("babba"):
            found.append(state)
            if len(found) == 2:
                break
        self.assertEqual(found, states[:2])
        one, other = hand.preview("babba"), hand.preview("bab")
        self.assertEqual([next(one), next(other), next(one), next(one), next(other)],
                         [states[0], states[0], states[1], states[2], states[1]])
        one.close()
        self.assertEqual(list(other), states[2:3])
        self.assertEqual(list(zip(hand.preview("babba"), hand.preview("bab"))), [(state, state) for state in states[:3]])
        self.assertEqual((len(hand), hand.place, list(hand.preview("babba"))), (2, hand.place, states))
        hand.read("b")
        self.assertEqual(list(hand.preview("abba")), states[1:])


if __name__ == "__main__":
    unittest.main()
