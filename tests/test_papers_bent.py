"""lastslip/papers.py: which certificates hold, and which do not."""

import random
import unittest

from lastslip.automata import Automaton
from lastslip.errors import TooMany
from lastslip.least import least_paper
from lastslip.papers import Harmful, Harmless, harmless
from lastslip.trackers import determinize

from oracles import harmful_holds, harmless_holds
from samples import GREAT, NOTHINGS, WIDE, NARROW, raised, random_deterministic, some_automata, writings, written

LASSOS = writings("ab", 2, 4)
HIGH = 10 ** 18
FEW = Automaton.deterministic("ab", [[(0, "safe"), (0, "slip")]])
ALL = Automaton.deterministic("ab", [[(0, "safe"), (0, "safe")]])
NONE = Automaton.deterministic("ab", [[(0, "slip"), (0, "slip")]])


def certificates(seed, many):
    """So many automata with certificates; half of these are harmful."""
    found = {"harmless": [], "harmful": []}
    for automaton in some_automata(seed, 400, sizes=(2, 3), more=8):
        paper = harmless(automaton)
        if len(found[paper.told()]) < many // 2:
            found[paper.told()].append((automaton, paper))
    return found["harmless"] + found["harmful"]


def lists(paper):
    return [paper.moves() if type(paper) is Harmless else paper.letters(), paper.ranks()]


class BentTest(unittest.TestCase):
    def holds(self, automaton, made, tracker, first, ranks):
        """Whether a certificate holds, which is also found in a plain way."""
        slow = harmless_holds if made is Harmless else harmful_holds
        found = made(tracker, first, ranks).holds(automaton)
        self.assertIs(found, slow(automaton, tracker, first, ranks, LASSOS), (automaton.transitions(), first, ranks))
        return found

    def bends(self, chance, rows):
        """Lists with one thing bent."""
        for at, row in enumerate(rows):
            before, behind = rows[:at], rows[at + 1:]
            yield before + behind
            yield rows + [row]
            yield before + [row, row] + behind
            yield before + [row[:-1]] + behind
            yield before + [(*row, 0)] + behind
            late = chance.randrange(len(row))
            for value in chance.sample([*NOTHINGS, -1, 0, 1, 2, 3, HIGH, HIGH + 1, "a", "b", "c", "", "ab"], 6):
                yield before + [(*row[:late], value, *row[late + 1:])] + behind
                yield rows + [(*row[:late], value, *row[late + 1:])]
            if isinstance(row[-1], int):
                yield before + [(*row[:-1], row[-1] + 1)] + behind
                yield before + [(*row[:-1], row[-1] - 1)] + behind
                yield before + [(*row[:-2], row[-2], 0)] + behind
        yield []
        yield [()]
        yield rows[::-1]

    def test_one_thing_bent(self):
        chance = random.Random(70)
        for made in (Harmless, Harmful):
            answers = []
            for automaton, paper in certificates(71, 16):
                if type(paper) is made:
                    first, ranks = lists(paper)
                    self.assertTrue(self.holds(automaton, made, paper.tracker, first, ranks))
                    answers += [self.holds(automaton, made, paper.tracker, bent, ranks)
                                for bent in self.bends(chance, first)]
                    answers += [self.holds(automaton, made, paper.tracker, first, bent)
                                for bent in self.bends(chance, ranks)]
            self.assertGreater(answers.count(True), 40)
            self.assertGreater(answers.count(False), 500)

    def test_other_trackers(self):
        chance = random.Random(72)
        for automaton, paper in certificates(73, 16):
            first, ranks = lists(paper)
            tracker, made = paper.tracker, type(paper)
            for _ in range(6):
                other = random_deterministic(chance, "ab", tracker.size, chance.choice((3, 6, 9)))
                self.holds(automaton, made, other, first, ranks)
                self.holds(automaton, made, tracker.begun_at(chance.randrange(tracker.size)), first, ranks)
            for at in range(len(tracker.transitions())):
                rows = tracker.transitions()
                kind = "slip" if rows[at][3] == "safe" else "safe"
                rows[at] = (*rows[at][:3], kind)
                other = Automaton("ab", tracker.size, rows, initial=tracker.initial)
                self.holds(automaton, made, other, first, ranks)
                more = Automaton("ab", tracker.size + 1, [*tracker.transitions(), (tracker.size, "a", 0, "safe"),
                                                          (tracker.size, "b", 0, kind)], initial=tracker.initial)
                self.assertTrue(self.holds(automaton, made, more, first, ranks))
            loose = Automaton("ab", tracker.size + 1, [*more.transitions(), (tracker.size, "a", 1, "safe")],
                              initial=tracker.initial)
            for value in [*NOTHINGS, 0, "ab", automaton if not automaton.is_deterministic else None, loose, paper,
                          Automaton.deterministic("abc", [[(0, "safe")] * 3] * tracker.size),
                          Automaton.deterministic("a", [[(0, "safe")]] * tracker.size)]:
                self.assertIs(made(value, first, ranks).holds(automaton), False)

    def test_other_automata(self):
        samples = certificates(74, 16)
        for automaton, paper in samples:
            for other, _ in samples:
                self.holds(other, type(paper), paper.tracker, *lists(paper))

    def test_ranks_and_steps_moved(self):
        for automaton, paper in certificates(75, 16):
            first, ranks = lists(paper)
            high = max(max(row[2:]) for row in ranks)
            for many in (1, 5, HIGH - high):
                moved = [(*row[:2], *[value + many for value in row[2:]]) for row in ranks]
                self.assertTrue(self.holds(automaton, type(paper), paper.tracker, first, moved))
            for many in (-1, HIGH - high + 1):
                moved = [(*row[:2], *[value + many for value in row[2:]]) for row in ranks]
                self.assertFalse(self.holds(automaton, type(paper), paper.tracker, first, moved))
            for value in (False, True, None, "0", "", (), [0]):
                at = [late for late, row in enumerate(ranks) if row[2] == 0][0]
                moved = ranks[:at] + [(*ranks[at][:2], value, *ranks[at][3:])] + ranks[at + 1:]
                self.assertFalse(self.holds(automaton, type(paper), paper.tracker, first, moved))
            twice = [(*row[:2], *[2 * value for value in row[2:]]) for row in ranks]
            self.assertIs(type(paper)(paper.tracker, tuple(first), tuple(twice)).holds(automaton), True)
            self.assertIs(type(paper)(paper.tracker, first, [list(row) for row in ranks]).holds(automaton), False)

    def test_never_both(self):
        for automaton, paper in certificates(76, 30):
            other = Harmful if type(paper) is Harmless else Harmless
            self.assertIs(other(paper.tracker, *lists(paper)).holds(automaton), False)


class ConditionsTest(unittest.TestCase):
    """The conditions one by one, with automata of one or two states."""

    def harmless(self, automaton, tracker, moves, ranks):
        return Harmless(tracker, moves, ranks).holds(automaton)

    def harmful(self, automaton, tracker, letters, ranks):
        return Harmful(tracker, letters, ranks).holds(automaton)

    def test_ranks_of_a_harmless(self):
        moves = [(0, 0, "a", 1), (0, 0, "b", 1), (1, 0, "a", 1), (1, 0, "b", 1)]
        for kind in ("safe", "slip"):
            automaton = Automaton("ab", 2, [(0, letter, 1, kind) for letter in "ab"] +
                                  [(1, letter, 1, "safe") for letter in "ab"])
            for high in (0, 1, 2):
                for low in (0, 1, 2):
                    good = high > low if kind == "slip" else high >= low
                    ranks = [(0, 0, high), (1, 0, low)]
                    self.assertIs(self.harmless(automaton, ALL, moves, ranks), good)
        # If the tracker slips, the rank may be any.
        slips = Automaton.deterministic("ab", [[(0, "slip"), (0, "slip")]])
        tracked = [(0, 0, "a", 0), (0, 0, "b", 0)]
        self.assertIs(self.harmless(slips, NONE, tracked, [(0, 0, 0)]), True)
        self.assertIs(self.harmless(slips, FEW, tracked, [(0, 0, 0)]), False)
        self.assertIs(self.harmless(FEW, FEW, tracked, [(0, 0, 7)]), True)

    def test_what_the_tracker_of_a_harmless_accepts(self):
        tracked = [(0, 0, "a", 0), (0, 0, "b", 0)]
        self.assertIs(self.harmless(ALL, ALL, tracked, [(0, 0, 0)]), True)
        self.assertIs(self.harmless(ALL, FEW, tracked, [(0, 0, 0)]), False)
        self.assertIs(self.harmless(ALL, NONE, tracked, [(0, 0, 0)]), False)
        self.assertIs(self.harmless(NONE, NONE, tracked, [(0, 0, 0)]), True)

    def test_moves_of_a_harmless(self):
        automaton = written("ab", 2, 0, "0a0 0b0! 0b1! 1a1 1b1")
        good = [(0, 0, "a", 0), (0, 0, "b", 1), (1, 0, "a", 1), (1, 0, "b", 1)]
        ranks = [(0, 0, 1), (1, 0, 0)]
        self.assertIs(self.harmless(automaton, ALL, good, ranks), True)
        self.assertIs(self.harmless(automaton, ALL, good[::-1], ranks[::-1]), True)
        self.assertIs(self.harmless(automaton, ALL, good[:1] + good[2:], ranks), False)
        self.assertIs(self.harmless(automaton, ALL, good, ranks[:1]), False)
        self.assertIs(self.harmless(automaton, ALL, good, ranks[1:]), False)
        self.assertIs(self.harmless(automaton, ALL, [(0, 0, "a", 1)] + good[1:], ranks), False)
        self.assertIs(self.harmless(automaton, ALL, good + [(0, 0, "a", 0)], ranks), False)
        # Moves from a position without a rank are looked at for their form only.
        late = Automaton.deterministic("ab", [[(0, "safe"), (0, "safe")], [(1, "slip"), (1, "slip")]])
        self.assertIs(self.harmless(automaton, late, good + [(1, 1, "a", 0)], ranks), True)
        for row in [(1, 1, "c", 0), (1, 1, "a", 2), (2, 1, "a", 0), (1, 2, "a", 0), (1, 1, "ab", 0), (1, 1, "", 0),
                    (1, 1, "a"), (1, 1, "a", True), (-1, 1, "a", 0), (True, 1, "a", 0), ()]:
            self.assertIs(self.harmless(automaton, late, good + [row], ranks), False)

    def test_ranks_of_a_harmful(self):
        # The opponent leads to a state from which each letter slips.
        for kind in ("safe", "slip"):
            automaton = Automaton("ab", 2, [(0, "a", 1, kind), (0, "b", 0, "safe")] +
                                  [(1, letter, 1, "slip") for letter in "ab"] + [(1, "b", 0, "safe")])
            for word in ("safe", "slip"):
                tracker = Automaton.deterministic("ab", [[(1, word), (0, "safe")], [(1, "safe"), (1, "slip")]])
                letters = [(0, 0, "a"), (1, 1, "a")]
                for high in (0, 1):
                    for many in (0, 1):
                        # The rows hold, but the automaton does not accept all that the tracker accepts.
                        ranks = [(0, 0, high, many), (1, 1, 0, 0)]
                        good = high > 0 or (word == "safe" and (kind == "slip" or many > 0))
                        self.assertIs(harmful_holds(automaton, tracker, letters, ranks, []), good)
                        self.assertIs(self.harmful(automaton, tracker, letters, ranks), False)
                        self.assertIs(harmful_holds(automaton, tracker, letters, ranks, LASSOS), False)
        guess = written("ab", 3, 0, "0a1 0a2! 0b1! 0b2 1a1 1b1! 2a2! 2b2")
        tracker = determinize(guess)
        paper = harmless(guess)
        self.assertEqual([paper.holds(guess), paper.told()], [True, "harmful"])
        steps = [(*row[:3], row[3] + 1) if row[:2] == (0, 0) else row for row in paper.ranks()]
        low = [(*row[:3], 0) for row in steps]
        self.assertIs(self.harmful(guess, tracker, paper.letters(), steps), True)
        self.assertIs(self.harmful(guess, tracker, paper.letters(), low), False)

    def test_too_many_only_if_the_other_conditions_hold(self):
        for many, great in GREAT:
            # The letter a leads to a state that always slips, and the letter b to the great automaton.
            rows = [(source + 2, letter, target + 2, kind) for source, letter, target, kind in great.transitions()]
            rows += [(0, "a", 1, "slip"), (0, "b", great.initial + 2, "safe"), (1, "a", 1, "slip"), (1, "b", 1, "slip")]
            automaton = Automaton("ab", great.size + 2, rows)
            letters, ranks = [(0, 0, "a"), (1, 0, "b")], [(0, 0, 0, 0), (1, 0, 0, 0)]
            paper = Harmful(ALL, letters, ranks)
            if many + 2 > 65:
                raised(self, TooMany, {"most": 65}, paper.holds, automaton)
                raised(self, TooMany, {"most": 65}, paper.holds, automaton=automaton)
            else:
                self.assertIs(paper.holds(automaton), False)
            for tracker, first, late in [(NONE, letters, ranks), (ALL, letters[1:], ranks), (ALL, letters, ranks[1:]),
                                         (ALL, letters, ranks[:1]), (ALL, letters + letters, ranks),
                                         (ALL, letters, ranks + [(2, 0, 0, 0)]), (ALL, letters, ranks + [(2, 9, 0, 0)]),
                                         (great, letters, ranks), (ALL, None, ranks), (ALL, letters, 5)]:
                self.assertIs(Harmful(tracker, first, late).holds(automaton), False)

    def test_a_harmless_never_counts_the_tracker(self):
        paper = least_paper(NARROW)
        raised(self, TooMany, {"most": 65}, harmless, WIDE)
        self.assertIs(paper.holds(WIDE), True)
        self.assertIs(Harmless(paper.tracker, paper.moves()[1:], paper.ranks()).holds(WIDE), False)
        self.assertIs(Harmless(paper.tracker.begun_at(1), paper.moves(), paper.ranks()).holds(WIDE), False)


if __name__ == "__main__":
    unittest.main()
