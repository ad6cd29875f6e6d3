"""Languages: sets of infinite words, each with its tracker and its least automaton."""

from lastslip.automata import Automaton
from lastslip.errors import InvalidAlphabet
from lastslip.joins import behind, both, either
from lastslip.least import least, least_paper
from lastslip.relations import accepted_word, beyond, refused_word, separating
from lastslip.runs import accepting_run
from lastslip.trackers import after
from lastslip.wishes import read_wish
from lastslip.words import is_alphabet


class Language:
    """The set of the infinite words that an automaton accepts."""

    def __init__(self, automaton):
        self.alphabet = automaton.alphabet
        self.least = least(automaton)
        # The paper shows how the hand of the least automaton moves beside the tracker.
        self.paper = least_paper(automaton)
        self.tracker = self.paper.tracker

    @classmethod
    def of_wish(cls, alphabet, text):
        """The language of a wish without names."""
        return cls(read_wish(text).compiled(alphabet))

    @classmethod
    def whole(cls, alphabet):
        """The language of all infinite words."""
        if not is_alphabet(alphabet):
            raise InvalidAlphabet(alphabet)
        return cls(Automaton.deterministic(alphabet, [[(0, "safe")] * len(alphabet)]))

    def accepts(self, lasso):
        """Whether the lasso is in the language."""
        return accepting_run(self.tracker, lasso) is not None

    def example(self):
        """A lasso in the language, or None."""
        return accepted_word(self.tracker)

    def gap(self):
        """A lasso outside of the language, or None."""
        return refused_word(self.tracker)

    def within(self, other):
        """Whether the other language has all words of this one."""
        return beyond(self.tracker, other.tracker) is None

    def apart(self, other):
        """A lasso of just one of both languages, or None."""
        return separating(self.tracker, other.tracker)

    def common(self, *others):
        """The language of the words that this one and all other ones have."""
        automaton = self.tracker
        for other in others:
            automaton = both(automaton, other.tracker)
        return Language(automaton)

    def union(self, *others):
        """The language of the words that this one or some of the other ones has."""
        automaton = self.tracker
        for other in others:
            automaton = either(automaton, other.tracker)
        return Language(automaton)

    def begun(self, word):
        """The language of the words that begin with a word and go on with one of this language."""
        return Language(behind(word, self.tracker))

    def rest(self, word):
        """The language of the words that are in this one if the word is put in front."""
        return Language(after(self.tracker, word))

    def __len__(self):
        return len(self.least)

    def __bool__(self):
        return True

    def __eq__(self, other):
        return isinstance(other, Language) and self.least == other.least

    def __repr__(self):
        return f"Language({self.least.size} states)"
