"""lastslip/hands.py."""

import random
import unittest

from lastslip.automata import Automaton
from lastslip.errors import HarmfulGuesses, InvalidWord, NothingLeft, StrangeLetter, TooMany, WrongPaper
from lastslip.hands import Hand, is_calm, safe_moves, slips_on
from lastslip.least import least, least_paper
from lastslip.papers import Harmful, Harmless, harmless
from lastslip.words import Lasso

from samples import (GREAT, NARROW, NOTHINGS, NUMBERS, WIDE, WRONG_STRINGS, raised, really_accepts, some_automata, strings,
                     writings, written)

EITHER = written("ab", 3, 0, "0a1 0b1! 0a2! 0b2 1a1 1b1! 2a2! 2b2")
AGAIN = written("ab", 2, 0, "0a0 0b0! 0b1! 1b1 1a0! 1a1!")
NO_WORDS = [*NOTHINGS, *NUMBERS, *WRONG_STRINGS, "a" * 201]


class Model:
    """What a hand is at, from the rows of its certificate."""

    def __init__(self, automaton, paper):
        self.kinds = {row[:3]: row[3] for row in automaton.transitions()}
        self.moves = {row[:3]: row[3] for row in paper.moves()}
        self.tracker = {row[:2]: row[2:] for row in paper.tracker.transitions()}
        self.start = (automaton.initial, paper.tracker.initial)

    def at(self, word):
        """The state, the tracked state, the slips and the resets behind a word, and the states on the way."""
        (place, tracked), slips, resets, visited = self.start, 0, 0, []
        for letter in word:
            target = self.moves[place, tracked, letter]
            slips += self.kinds[place, letter, target] == "slip"
            tracked, kind = self.tracker[tracked, letter]
            resets += kind == "slip"
            place = target
            visited.append(place)
        return place, tracked, slips, resets, visited


def shown(hand):
    """All that a hand shows of itself."""
    return hand.place, hand.tracked, hand.slips, hand.resets, len(hand), repr(hand)


def hands(seed, many):
    """So many automata with certificates, also least automata."""
    found = []
    for automaton in some_automata(seed, 3 * many, ("ab", "ab", "xyz"), (2, 3, 4), 4):
        paper = harmless(automaton)
        if type(paper) is Harmless:
            found.append((automaton, paper))
        found.append((least(automaton), least_paper(automaton)))
    return found[:many]


class HandTest(unittest.TestCase):
    def check(self, hand, model, word):
        place, tracked, slips, resets, _ = model.at(word)
        self.assertEqual(shown(hand), (place, tracked, slips, resets, len(word),
                                       f"Hand({len(word)} letters, {slips} slips)"))
        self.assertIs(bool(hand), True)

    def test_letters_words_and_steps_back(self):
        chance = random.Random(100)
        for automaton, paper in hands(100, 40):
            hand, model, word = Hand(automaton, paper), Model(automaton, paper), ""
            self.assertIs(hand.automaton, automaton)
            self.assertIs(hand.paper, paper)
            self.check(hand, model, word)
            for _ in range(60):
                more = "".join(chance.choice(automaton.alphabet) for _ in range(chance.randrange(5)))
                deed = chance.randrange(4)
                if deed == 0 and word:
                    self.assertIsNone(hand.back())
                    word = word[:-1]
                elif deed == 0:
                    raised(self, NothingLeft, {}, hand.back)
                elif deed == 1:
                    self.assertIsNone(hand.read(more))
                    word += more
                elif deed == 2:
                    self.assertEqual(list(hand.preview(more)), model.at(word + more)[4][len(word):])
                elif more:
                    word += more[0]
                    self.assertEqual(hand(more[0]), model.at(word)[0])
                self.check(hand, model, word)

    def test_back_to_the_beginning(self):
        hand = Hand.of(AGAIN)
        first = shown(hand)
        for word in ("", "b", "ab" * 100, "b" * 200):
            hand.read(word=word)
            for _ in word:
                hand.back()
            self.assertEqual(shown(hand), first)
            raised(self, NothingLeft, {}, hand.back)

    def test_named_arguments(self):
        hand = Hand(paper=harmless(AGAIN), automaton=AGAIN)
        hand(letter="b")
        self.assertEqual(list(hand.preview(word="ba")), list(hand.preview("ba")))
        self.assertEqual(repr(hand), "Hand(1 letters, 1 slips)")
        self.assertEqual(repr(Hand.of_least(automaton=EITHER)), "Hand(0 letters, 0 slips)")
        self.assertEqual(Hand.of(automaton=AGAIN).automaton, AGAIN)

    def test_preview(self):
        hand = Hand.of(AGAIN)
        hand.read("ab")
        kept = shown(hand)
        model = Model(AGAIN, hand.paper)
        wanted = model.at("ab" + "babba")[4][2:]
        steps, others = hand.preview("babba"), hand.preview("babba")
        found = []
        for one, other in zip(steps, others):
            found.append((one, other))
            self.assertEqual(shown(hand), kept)
        self.assertEqual(found, [(state, state) for state in wanted])
        broken = hand.preview("ba")
        self.assertEqual(next(broken), wanted[0])
        broken.close()
        self.assertEqual(list(hand.preview("")), [])
        late = hand.preview("b" * 200)
        next(late)
        hand("a")
        hand.back()
        self.assertEqual(len(list(late)), 199)
        self.assertEqual(shown(hand), kept)

    def test_preview_raises_late(self):
        hand = Hand.of(AGAIN)
        for word in NO_WORDS:
            steps = hand.preview(word)
            raised(self, InvalidWord, {"given": word}, next, steps)
        for word, letter in (("c", "c"), ("abzc", "z")):
            steps = hand.preview(word)
            raised(self, StrangeLetter, {"given": letter}, next, steps)

    def test_wrong_letters_and_words(self):
        hand = Hand.of(AGAIN)
        hand.read("bab")
        kept = shown(hand)
        for value in [*NOTHINGS, *NUMBERS, "", "c", "ab", "A", "aa"]:
            raised(self, StrangeLetter, {"given": value}, hand, value)
            raised(self, StrangeLetter, {"given": value}, hand, letter=value)
        for word in NO_WORDS:
            for call in (hand.read, lambda value: is_calm(hand, value)):
                raised(self, InvalidWord, {"given": word}, call, word)
        for word, letter in (("c", "c"), ("abzc", "z"), ("bbbbd", "d")):
            for call in (hand.read, lambda value: is_calm(hand, value)):
                raised(self, StrangeLetter, {"given": letter}, call, word)
        self.assertEqual(shown(hand), kept)

    def test_wrong_papers(self):
        good = harmless(AGAIN)
        for value in [*NOTHINGS, *NUMBERS, *WRONG_STRINGS, harmless(EITHER), Harmful(good.tracker, [], []), AGAIN,
                      Harmless(good.tracker, good.moves()[1:], good.ranks()), Harmless(None, [], [])]:
            raised(self, WrongPaper, {}, Hand, AGAIN, value)
            raised(self, WrongPaper, {}, Hand, paper=value, automaton=AGAIN)
        raised(self, WrongPaper, {}, Hand, EITHER, harmless(EITHER))

    def test_hands_of_automata(self):
        seen = {"harmless": 0, "harmful": 0}
        for automaton in some_automata(101, 90, sizes=(2, 3, 4), more=8):
            paper = harmless(automaton)
            seen[paper.told()] += 1
            if type(paper) is Harmless:
                hand = Hand.of(automaton)
                self.assertEqual(hand.automaton, automaton)
                self.assertIs(hand.paper.holds(automaton), True)
                self.assertEqual(hand.paper.tracker, paper.tracker)
            else:
                raised(self, HarmfulGuesses, {}, Hand.of, automaton)
            hand = Hand.of_least(automaton)
            self.assertEqual(hand.automaton, least(automaton))
            self.assertEqual(hand.paper, least_paper(automaton))
            self.assertEqual(shown(hand)[:5], (0, hand.paper.tracker.initial, 0, 0, 0))
        self.assertGreater(min(seen.values()), 10)
        for many, automaton in GREAT:
            if many > 65:
                raised(self, TooMany, {"most": 65}, Hand.of, automaton)
                raised(self, TooMany, {"most": 65}, Hand.of_least, automaton)
        raised(self, TooMany, {"most": 65}, Hand.of, WIDE)
        self.assertEqual(Hand.of_least(NARROW).automaton, WIDE)

    def test_twins(self):
        hand = Hand.of(AGAIN)
        hand.read("bab")
        twin = hand.twin()
        self.assertIs(type(twin), Hand)
        self.assertIs(twin.paper, hand.paper)
        self.assertIs(twin.automaton, hand.automaton)
        kept = shown(hand)
        self.assertEqual(shown(twin), kept)
        twin("b")
        twin.read("aab")
        self.assertEqual(shown(hand), kept)
        moved = shown(twin)
        hand.back()
        hand.back()
        self.assertEqual(shown(twin), moved)
        for _ in range(7):
            twin.back()
        raised(self, NothingLeft, {}, twin.back)
        self.assertEqual(len(hand), 1)

    def test_between_two_resets(self):
        chance = random.Random(102)
        slips = 0
        for automaton in [EITHER, *some_automata(103, 40, ("ab", "xyz"), (2, 3, 4), 6)]:
            hand = Hand.of_least(automaton)
            for _ in range(10):
                late = hand.twin()
                before = (0, 0)
                for _ in range(40):
                    late(chance.choice(hand.automaton.alphabet))
                    if late.resets > before[1]:
                        before = (late.slips, late.resets)
                    self.assertLessEqual(late.slips - before[0], 1)
                slips += late.slips
        self.assertGreater(slips, 300)


class AskedTest(unittest.TestCase):
    """The functions of a hand."""

    def test_slips_on(self):
        chance = random.Random(104)
        ends = never = 0
        for automaton, paper in hands(104, 30):
            hand, model = Hand(automaton, paper), Model(automaton, paper)
            behind = "".join(chance.choice(automaton.alphabet) for _ in range(chance.randrange(4)))
            hand.read(behind)
            kept = shown(hand)
            many = automaton.size * paper.tracker.size
            for prefix, loop in writings(automaton.alphabet, 2, 2 if automaton.alphabet == "ab" else 1):
                found = slips_on(hand, Lasso(prefix, loop))
                early, late = [model.at(behind + prefix + loop * times)[2] for times in (many, 2 * many)]
                self.assertEqual(found, early - kept[2] if early == late else None)
                self.assertIs(found is not None, really_accepts(automaton, behind + prefix, loop))
                ends += bool(found)
                never += found is None
            self.assertEqual(shown(hand), kept)
        self.assertGreater(min(ends, never), 100)

    def test_longer_lassos(self):
        chance = random.Random(105)
        for automaton, paper in hands(105, 12):
            hand, model = Hand(automaton, paper), Model(automaton, paper)
            prefix, loop = ["".join(chance.choice(automaton.alphabet) for _ in range(30)) for _ in range(2)]
            many = automaton.size * paper.tracker.size
            early, late = [model.at(prefix + loop * times)[2] for times in (many, 2 * many)]
            self.assertEqual(slips_on(hand, Lasso(prefix, loop)), early if early == late else None)
        long = Lasso("ab" * 3000, "a" * 4999 + "b")
        self.assertIsNone(slips_on(Hand.of(AGAIN), long))
        hand = Hand.of_least(AGAIN)
        slips = Model(hand.automaton, hand.paper).at("ab" * 5000 + "a" * 9)[2]
        self.assertGreater(slips, 4000)
        self.assertEqual(slips_on(lasso=Lasso("ab" * 5000, "a"), hand=hand), slips)

    def test_the_example(self):
        hand = Hand.of_least(EITHER)
        self.assertEqual([slips_on(hand, Lasso.of_text("bb(a)")), slips_on(hand, Lasso.of_text("(ab)")), len(hand)],
                         [2, None, 0])

    def test_safe_moves_and_calm_words(self):
        chance = random.Random(106)
        answers = []
        for automaton, paper in hands(106, 40):
            hand, model = Hand(automaton, paper), Model(automaton, paper)
            for _ in range(4):
                behind = "".join(chance.choice(automaton.alphabet) for _ in range(chance.randrange(6)))
                late = hand.twin()
                late.read(behind)
                kept = shown(late)
                for word in strings(automaton.alphabet, 0, 3):
                    answers.append(is_calm(late, word))
                    self.assertIs(answers[-1], model.at(behind + word)[2] == kept[2])
                self.assertEqual(safe_moves(late), "".join(letter for letter in automaton.alphabet
                                                           if model.at(behind + letter)[2] == kept[2]))
                self.assertEqual(shown(late), kept)
        self.assertGreater(min(answers.count(True), answers.count(False)), 100)
        self.assertIs(is_calm(word="a" * 200, hand=Hand.of(AGAIN)), True)
        self.assertEqual([safe_moves(hand=Hand.of(AGAIN)), is_calm(Hand.of(AGAIN), "")], ["a", True])
        slipping = Automaton.deterministic("ab", [[(0, "slip"), (0, "slip")]])
        self.assertEqual(safe_moves(Hand.of(slipping)), "")

    def test_strange_lassos(self):
        hand = Hand.of(AGAIN)
        for text, letter in (("(c)", "c"), ("ab(ac)", "c"), ("z(c)", "z"), ("abd(xa)", "d")):
            raised(self, StrangeLetter, {"given": letter}, slips_on, hand, Lasso.of_text(text))
        self.assertEqual(len(hand), 0)


if __name__ == "__main__":
    unittest.main()
