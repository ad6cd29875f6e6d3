"""Watches, which read letters and tell what they mean for a language."""

from lastslip.errors import InvalidLimit, NothingLeft, TooMany
from lastslip.hands import Hand
from lastslip.relations import accepted_word, refused_word
from lastslip.runs import accepting_run
from lastslip.words import is_number


class Watch:
    """The letters read so far, step by step, and a hand of the least automaton behind them."""

    MOST = 1000

    def __init__(self, language, *, limit=200):
        self._text = ""
        self.set_limit(limit)
        self.language = language
        self._hand = Hand(language.least, language.paper)
        # The letters that were read ahead of each step that can be undone, and behind each undone one.
        self._past = []
        self._future = []

    @property
    def limit(self):
        """The most letters."""
        return self._limit

    @limit.setter
    def limit(self, value):
        self.set_limit(value)

    def set_limit(self, value):
        """Assigns the limit."""
        if not is_number(value, len(self._text), Watch.MOST):
            raise InvalidLimit(value)
        self._limit = value

    def _go(self, text):
        """Has just these letters read, which begin with those read so far, or the other way round."""
        hand = self._hand
        while len(hand) > len(text):
            hand.back()
        late = text[len(hand):]
        for letter in late:
            hand(letter)
        self._text = text

    def feed(self, *words):
        """Reads the letters of all words, as one step."""
        for word in words:
            self._hand.check_word(word)
        text = self._text + "".join(words)
        if len(text) > self._limit:
            raise TooMany(self._limit)
        self._past.append(self._text)
        self._future = []
        self._go(text)

    def undo(self):
        """Takes the last step back."""
        if not self._past:
            raise NothingLeft()
        self._future.append(self._text)
        self._go(self._past.pop())

    def redo(self):
        """Does the last undone step again."""
        if not self._future:
            raise NothingLeft()
        self._past.append(self._text)
        self._go(self._future.pop())

    def history(self):
        """The numbers of the steps that can be undone and redone."""
        return len(self._past), len(self._future)

    def text(self):
        """The string of the letters read."""
        return self._text

    @property
    def place(self):
        """The state of the least automaton."""
        return self._hand.place

    @property
    def slips(self):
        """How many slips the hand of the least automaton made."""
        return self._hand.slips

    @property
    def resets(self):
        """How many slips the tracker made."""
        return self._hand.resets

    def rest(self):
        """The tracker of the language, begun at its present state."""
        return self.language.tracker.begun_at(self._hand.tracked)

    def verdict(self):
        """What the letters read mean for all infinite words that begin with them."""
        rest = self.rest()
        if refused_word(rest) is None:
            return "sure"
        return "hopeless" if accepted_word(rest) is None else "open"

    def accepts(self, lasso):
        """Whether the letters read, followed by the lasso, are in the language."""
        return accepting_run(self.rest(), lasso) is not None

    def twin(self):
        """An independent watch in the same state, with the same steps and limit."""
        late = Watch(self.language, limit=self._limit)
        late._past = list(self._past)
        late._future = list(self._future)
        late._go(self._text)
        return late

    def __len__(self):
        return len(self._text)

    def __bool__(self):
        return True

    def __repr__(self):
        return f"Watch({len(self._text)} letters)"
