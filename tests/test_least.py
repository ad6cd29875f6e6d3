"""lastslip/least.py."""

import random
import unittest
from itertools import product

from lastslip.automata import Automaton
from lastslip.components import normal
from lastslip.errors import TooMany, WrongPaper
from lastslip.least import embedding, least, least_paper
from lastslip.papers import Harmful, Harmless, harmless, used
from lastslip.relations import same_words
from lastslip.surveys import Survey
from lastslip.trackers import determinize

from oracles import accepted_lassos, real_safe_words
from samples import (GREAT, NARROW, NOTHINGS, NUMBERS, WIDE, WRONG_STRINGS, doubled, mixed, raised, random_deterministic,
                     real_tracker, some_automata, writings, written)

SHORT = writings("ab", 2, 3)
EITHER = written("ab", 3, 0, "0a1 0b1! 0a2! 0b2 1a1 1b1! 2a2! 2b2")


def followed(automaton):
    """The deterministic automaton from which the least one is made."""
    return automaton.trimmed() if automaton.is_deterministic else determinize(automaton)


def really_least(automaton):
    """The least automaton, and for each of its states the lot for which it stands, by the words of the document."""
    survey = Survey(followed(automaton))
    groups = survey.groups()
    kept = [state for part in survey.kept() for state in part]
    lots = []
    for group in groups:
        inside = [state for state in group if state in kept]
        for rank in sorted({survey.rank(state) for state in inside}):
            lots.append([state for state in inside if survey.rank(state) == rank])
    rows = []
    for number, lot in enumerate(lots):
        for letter in automaton.alphabet:
            target, kind = survey.automaton.moves(lot[0], letter)[0]
            for late, other in enumerate(lots):
                if (target in other) if kind == "safe" else survey.kin(target, other[0]):
                    rows.append((number, letter, late, kind))
    return Automaton(automaton.alphabet, len(lots), rows), lots, survey


def is_great(automaton):
    """Whether the tracker of the automaton, or that of its least automaton, has more than some states."""
    return len(real_tracker(automaton, 40)[0]) > 40 or len(real_tracker(least(automaton), 40)[0]) > 40


def samples(seed, many):
    """Automata with and without guesses, some of them with copies of states."""
    chance = random.Random(seed)
    found = some_automata(seed, many // 2, ("ab", "a", "xyz"), (1, 2, 3), 4)
    found += [automaton for automaton in some_automata(seed, many, ("ab",), (3, 4), 8) if not is_great(automaton)]
    for at in range(many // 2):
        automaton = random_deterministic(chance, "ab", chance.choice((2, 3, 4, 6)), chance.choice((4, 7, 9)))
        found.append(doubled(chance, automaton) if at % 2 else automaton)
    return found


class LeastTest(unittest.TestCase):
    def test_all_transitions(self):
        guesses = smaller = 0
        for automaton in samples(80, 60):
            found = least(automaton)
            self.assertEqual(found, really_least(automaton)[0])
            self.assertEqual(found.initial, 0)
            guesses += not found.is_deterministic
            smaller += found.size < followed(automaton).size
        self.assertGreater(min(guesses, smaller), 20)

    def test_the_lots_are_alike(self):
        for automaton in samples(81, 30):
            _, lots, survey = really_least(automaton)
            for one, other in product(lots, lots):
                self.assertIs(survey.alike(one[0], other[0]), one == other)
                self.assertIs(survey.alike(one[0], other[-1]), one == other)

    def test_the_same_lassos(self):
        for automaton in samples(82, 40):
            lassos = SHORT if automaton.alphabet == "ab" else writings(automaton.alphabet, 1, 2)
            found = least(automaton)
            self.assertEqual(accepted_lassos(found, 0, lassos), accepted_lassos(automaton, automaton.initial, lassos))
            self.assertIs(same_words(found, automaton), True)

    def test_written_otherwise(self):
        chance = random.Random(83)
        for automaton in samples(83, 40):
            found = least(automaton)
            for late in (normal(automaton), mixed(chance, automaton), automaton.trimmed(), determinize(automaton),
                         doubled(chance, automaton), found, determinize(found), mixed(chance, found)):
                if late.is_deterministic or len(real_tracker(late, 65)[0]) <= 65:
                    self.assertEqual(least(late), found)

    def test_equal_exactly_if_the_words_are(self):
        answers = []
        automata = [automaton for automaton in samples(84, 30) if automaton.alphabet == "ab"]
        for one, other in zip(automata, automata[1:]):
            answers.append(same_words(one, other))
            self.assertIs(least(one) == least(other), answers[-1])
        for automaton in automata:
            rows = automaton.transitions()
            rows[0] = (*rows[0][:3], "slip" if rows[0][3] == "safe" else "safe")
            other = Automaton("ab", automaton.size, rows, initial=automaton.initial)
            answers.append(same_words(automaton, other))
            self.assertIs(least(automaton) == least(other), answers[-1])
        self.assertGreater(min(answers.count(True), answers.count(False)), 5)

    def test_no_two_states_are_alike(self):
        for automaton in samples(85, 40):
            found = least(automaton)
            words = [real_safe_words(found, state, found.size) for state in range(found.size)]
            for one, other in product(range(found.size), range(found.size)):
                same = words[one] == words[other] and same_words(found.begun_at(one), found.begun_at(other))
                self.assertIs(same, one == other)

    def test_slips_go_to_whole_groups(self):
        slips = 0
        for automaton in samples(86, 60):
            found = least(automaton)
            groups = [{other for other in range(found.size)
                       if same_words(found.begun_at(state), found.begun_at(other))} for state in range(found.size)]
            for state, letter in product(range(found.size), found.alphabet):
                moves = found.moves(state, letter)
                kinds = {kind for _, kind in moves}
                if kinds == {"safe"}:
                    self.assertEqual(len(moves), 1)
                else:
                    self.assertEqual(kinds, {"slip"})
                    self.assertEqual({target for target, _ in moves}, groups[moves[0][0]])
                    slips += len(moves) > 1
        self.assertGreater(slips, 20)

    def test_guesses_are_harmless(self):
        for automaton in samples(87, 40):
            self.assertIs(type(harmless(least(automaton))), Harmless)
        self.assertIs(type(harmless(EITHER)), Harmful)

    def test_known_ones(self):
        wanted = [(0, "a", 0, "safe"), (0, "b", 0, "slip"), (0, "b", 1, "slip"), (1, "a", 0, "slip"),
                  (1, "a", 1, "slip"), (1, "b", 1, "safe")]
        # The automaton of the wish `blocks:a blocks:b either`.
        wish = written("ab", 3, 0, "0a1 0b1! 0a2! 0b2 1a1 1b1! 2a2! 2b2")
        for automaton in (wish, EITHER):
            self.assertEqual([harmless(automaton).told(), least(automaton).transitions()], ["harmful", wanted])
        self.assertEqual(repr(wish), "Automaton(3 states, 8 transitions)")
        for kind in ("safe", "slip"):
            rows = [[((at + 1) % 65, kind)] * 3 for at in range(65)]
            self.assertEqual(least(Automaton.deterministic("abc", rows, initial=40)).transitions(),
                             [(0, letter, 0, kind) for letter in "abc"])
        self.assertEqual(least(NARROW), WIDE)
        self.assertEqual(least(automaton=EITHER).transitions(), wanted)

    def test_sizes(self):
        # 65 states that all have different safe words.
        rows = [[(at + 1, "safe"), (at, "safe")] for at in range(64)]
        chain = Automaton.deterministic("ab", [*rows, [(0, "slip"), (0, "safe")]])
        self.assertEqual(len(least(chain)), 65)
        self.assertEqual(len(least(chain.begun_at(64))), 65)
        for many, automaton in GREAT:
            for call in (least, least_paper):
                if many > 65:
                    raised(self, TooMany, {"most": 65}, call, automaton)
                    raised(self, TooMany, {"most": 65}, call, automaton=automaton)
            if many <= 65:
                self.assertEqual(least(automaton), really_least(automaton)[0])
                self.assertEqual(least_paper(automaton).holds(least(automaton)), True)

    def test_only_guesses_count(self):
        # A guess at a state that cannot be reached: the automaton is followed by its tracker.
        loose = Automaton("ab", 3, [(0, "a", 1, "safe"), (0, "b", 0, "slip"), (1, "a", 1, "slip"), (1, "b", 0, "safe"),
                                    (2, "a", 0, "safe"), (2, "a", 1, "slip"), (2, "b", 2, "safe")], initial=1)
        self.assertEqual(least_paper(loose).tracker, normal(determinize(loose)))
        late = Automaton("ab", 3, [row for row in loose.transitions() if row[:3] != (2, "a", 1)], initial=1)
        self.assertEqual(least_paper(late).tracker, normal(late.trimmed()))
        self.assertEqual(least(loose), least(late))


class PaperTest(unittest.TestCase):
    def really_paper(self, automaton):
        """The rows of the hand of the least automaton, by the words of the document."""
        lean, lots, survey = really_least(automaton)
        tracker = survey.automaton

        def is_above(number, state):
            return survey.below(state, lots[number][0])

        positions, moves = [(0, tracker.initial)], []
        for state, tracked in positions:
            for letter in lean.alphabet:
                late = tracker.targets(tracked, letter)[0]
                target = lean.targets(state, letter, "safe")
                if not target:
                    target = [number for number in range(lean.size) if is_above(number, late)]
                moves.append((state, tracked, letter, target[0]))
                if (target[0], late) not in positions:
                    positions.append((target[0], late))
        ranks = [(state, tracked, 0 if is_above(state, tracked) else 1) for state, tracked in positions]
        return tracker, sorted(moves), sorted(ranks)

    def test_tracker_moves_and_ranks(self):
        ones = 0
        for automaton in samples(88, 60):
            paper = least_paper(automaton)
            self.assertIs(type(paper), Harmless)
            self.assertEqual((paper.tracker, paper.moves(), paper.ranks()), self.really_paper(automaton))
            self.assertEqual(paper.tracker, normal(followed(automaton)))
            self.assertIs(paper.holds(least(automaton)), True)
            self.assertEqual(paper, least_paper(automaton))
            ones += any(row[2] for row in paper.ranks())
        self.assertGreater(ones, 5)
        self.assertIs(least_paper(automaton=EITHER).holds(least(EITHER)), True)

    def test_between_two_slips_of_the_tracker(self):
        chance = random.Random(89)
        late = 0
        for automaton in samples(89, 40):
            paper, found = least_paper(automaton), least(automaton)
            moves = {row[:3]: row[3] for row in paper.moves()}
            state, tracked, slips = 0, paper.tracker.initial, 0
            for _ in range(200):
                letter = chance.choice(found.alphabet)
                target = moves[state, tracked, letter]
                slips += target not in found.targets(state, letter, "safe")
                tracked, kind = paper.tracker.moves(tracked, letter)[0]
                if kind == "slip":
                    slips = 0
                state = target
                self.assertLessEqual(slips, 1)
                late += slips
        self.assertGreater(late, 20)


class EmbeddingTest(unittest.TestCase):
    def check(self, automaton, paper):
        """Checks the list by the words of the document, with short words and lassos."""
        found = embedding(automaton, paper)
        lean = least(paper.tracker)
        rows = used(automaton, paper)
        states = sorted({row[0] for row in rows})
        loops = [(state, letter, state, "safe") for state in range(automaton.size) if state not in states
                 for letter in automaton.alphabet]
        fair = Automaton(automaton.alphabet, automaton.size, rows + loops, initial=automaton.initial)
        most = 7 if automaton.alphabet == "ab" else 4
        known = {state: real_safe_words(fair, state, most) for state in states}
        self.assertEqual(len(found), lean.size)
        for number, state in enumerate(found):
            words = real_safe_words(lean, number, most)
            same = [late for late in states if known[late] == words
                    and same_words(fair.begun_at(late), lean.begun_at(number))]
            self.assertEqual(state, same[0])
        return found

    def test_certificates_that_are_found(self):
        moved = several = 0
        for automaton in samples(90, 60):
            paper = harmless(automaton)
            if type(paper) is Harmless:
                found = self.check(automaton, paper)
                moved += found != list(range(len(found)))
                several += len(found) > 1
        self.assertGreater(min(moved, several), 20)

    def test_least_automata(self):
        for automaton in samples(91, 30):
            found = least(automaton)
            self.assertEqual(embedding(found, least_paper(automaton)), list(range(found.size)))
            paper = harmless(found)
            self.assertEqual(embedding(found, paper=paper), list(range(found.size)))
        self.assertEqual(embedding(WIDE, least_paper(NARROW)), list(range(8)))

    def test_copies_and_other_orders(self):
        chance = random.Random(92)
        for automaton in samples(92, 25):
            found = least(automaton)
            late = mixed(chance, doubled(chance, found))
            if not is_great(late):
                self.check(late, harmless(late))

    def test_what_the_hand_does_not_use(self):
        # The state 1 has the same words as the state 2, but the hand goes to the state 2 only.
        automaton = written("ab", 3, 0, "0a1! 0a2! 0b0! 1a1 1b1! 2a2 2b2!")
        tracker = Automaton.deterministic("ab", [[(1, "slip"), (0, "slip")], [(1, "safe"), (1, "slip")]])
        moves = [(0, 0, "a", 2), (0, 0, "b", 0), (2, 1, "a", 2), (2, 1, "b", 2)]
        paper = Harmless(tracker, moves, [(0, 0, 0), (2, 1, 0)])
        self.assertIs(paper.holds(automaton), True)
        self.assertEqual(embedding(automaton, paper), self.check(automaton, paper))
        self.assertEqual(embedding(automaton, paper)[-1:], [2])

    def test_fair_parts_with_guesses(self):
        # Other moves that the ranks allow, so that a state has several safe transitions by one letter.
        chance = random.Random(93)
        guesses = 0
        for automaton in [doubled(chance, automaton) for automaton in samples(93, 60)]:
            paper = None if is_great(automaton) else harmless(automaton)
            if type(paper) is not Harmless:
                continue
            moves = self.other_moves(chance, automaton, paper, paper.ranks())
            late = Harmless(paper.tracker, moves, paper.ranks())
            self.assertIs(late.holds(automaton), True)
            self.check(automaton, late)
            safe = [row[:2] for row in used(automaton, late) if row[3] == "safe"]
            guesses += len(set(safe)) < len(safe)
        self.assertGreater(guesses, 5)

    def other_moves(self, chance, automaton, paper, ranks):
        """For each position and letter any move that keeps to the ranks."""
        heights = {row[:2]: row[2] for row in ranks}
        moves = []
        for (state, tracked), letter in product(heights, automaton.alphabet):
            late, word = paper.tracker.moves(tracked, letter)[0]
            good = [target for target, kind in automaton.moves(state, letter) if (target, late) in heights and
                    (word == "slip" or heights[target, late] + (kind == "slip") <= heights[state, tracked])]
            moves.append((state, tracked, letter, chance.choice(good)))
        return moves

    def test_wrong_papers(self):
        good = least_paper(NARROW)
        for value in [*NOTHINGS, *NUMBERS, *WRONG_STRINGS, harmless(EITHER), Harmful(good.tracker, [], []), WIDE,
                      Harmless(good.tracker, good.moves()[1:], good.ranks()), Harmless(None, [], [])]:
            raised(self, WrongPaper, {}, embedding, WIDE, value)
            raised(self, WrongPaper, {}, embedding, paper=value, automaton=WIDE)
        raised(self, WrongPaper, {}, embedding, EITHER, harmless(EITHER))
        raised(self, WrongPaper, {}, embedding, EITHER, good)


if __name__ == "__main__":
    unittest.main()
