"""Hands, which read letters and choose transitions by a certificate."""

from lastslip.errors import HarmfulGuesses, InvalidWord, NothingLeft, StrangeLetter
from lastslip.least import least, least_paper
from lastslip.papers import Harmless, check_paper, harmless
from lastslip.words import check_letters, is_letter, is_word


class Hand:
    """A hand at a position of a certificate, with the letters that it has read."""

    def __init__(self, automaton, paper):
        check_paper(automaton, paper)
        self.automaton = automaton
        self.paper = paper
        self._moves = {row[:3]: row[3] for row in paper.moves()}
        # A visit is (state, tracked state, slips, resets); there is one behind each letter.
        self._first = (automaton.initial, paper.tracker.initial, 0, 0)
        self._visits = []

    @classmethod
    def of(cls, automaton):
        """A hand with a certificate that the guesses of the automaton are harmless."""
        paper = harmless(automaton)
        if not isinstance(paper, Harmless):
            raise HarmfulGuesses()
        return cls(automaton, paper)

    @classmethod
    def of_least(cls, automaton):
        """The hand of the least automaton."""
        return cls(least(automaton), least_paper(automaton))

    def present(self):
        """The visit at which the hand is."""
        return self._visits[-1] if self._visits else self._first

    def ahead(self, visit, letter):
        """The visit behind another one and a letter of the alphabet."""
        place, tracked, slips, resets = visit
        target = self._moves[place, tracked, letter]
        if target not in self.automaton.targets(place, letter, "safe"):
            slips += 1
        late, kind = self.paper.tracker.moves(tracked, letter)[0]
        if kind == "slip":
            resets += 1
        return target, late, slips, resets

    def passed(self, visit, letters):
        """The visit behind another one and some letters of the alphabet."""
        for letter in letters:
            visit = self.ahead(visit, letter)
        return visit

    def check_word(self, word):
        """Raises InvalidWord or StrangeLetter unless any value is a word over the alphabet."""
        if not is_word(word):
            raise InvalidWord(word)
        check_letters(word, self.automaton.alphabet)

    def __call__(self, letter):
        if not is_letter(letter, self.automaton.alphabet):
            raise StrangeLetter(letter)
        self._visits.append(self.ahead(self.present(), letter))
        return self._visits[-1][0]

    def read(self, word):
        """Takes the moves for all letters of a word."""
        self.check_word(word)
        for letter in word:
            self._visits.append(self.ahead(self.present(), letter))

    def preview(self, word):
        """The states that the hand would visit, one for each letter, without moving it."""
        self.check_word(word)
        visit = self.present()
        for letter in word:
            visit = self.ahead(visit, letter)
            yield visit[0]

    def back(self):
        """Goes back by one letter."""
        if not self._visits:
            raise NothingLeft()
        self._visits.pop()

    @property
    def place(self):
        """The state of the automaton."""
        return self.present()[0]

    @property
    def tracked(self):
        """The state of the tracker."""
        return self.present()[1]

    @property
    def slips(self):
        """How many slips the moves of the automaton had."""
        return self.present()[2]

    @property
    def resets(self):
        """How many slips the moves of the tracker had."""
        return self.present()[3]

    def twin(self):
        """An independent hand at the same place, with the same letters."""
        late = Hand(self.automaton, self.paper)
        late._visits = list(self._visits)
        return late

    def __len__(self):
        return len(self._visits)

    def __bool__(self):
        return True

    def __repr__(self):
        return f"Hand({len(self._visits)} letters, {self.present()[2]} slips)"


def slips_on(hand, lasso):
    """How many slips the hand would make on the lasso from its place, or None if they never end."""
    check_letters(lasso.prefix + lasso.loop, hand.automaton.alphabet)
    start = hand.present()
    visit = hand.passed(start, lasso.prefix)
    seen = {}
    while visit[:2] not in seen:
        seen[visit[:2]] = visit[2]
        visit = hand.passed(visit, lasso.loop)
    if seen[visit[:2]] < visit[2]:
        return None
    return visit[2] - start[2]


def safe_moves(hand):
    """The ascending string of the letters by which the hand would not slip next."""
    visit = hand.present()
    return "".join([letter for letter in hand.automaton.alphabet if hand.ahead(visit, letter)[2] == visit[2]])


def is_calm(hand, word):
    """Whether the hand would read the word without a slip."""
    hand.check_word(word)
    visit = hand.present()
    return hand.passed(visit, word)[2] == visit[2]
