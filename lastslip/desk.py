"""Desks, which answer lines about a library."""

from lastslip.errors import Missing, SlipError
from lastslip.hands import Hand, slips_on
from lastslip.judging import judge
from lastslip.papers import harmless
from lastslip.texts import automaton_text
from lastslip.values import copied
from lastslip.words import Lasso


def _done(library):
    """The answer behind a change."""
    return f"done {len(library)}"


# Each of the following functions answers the lines of some kinds, given their words.
def _command(library, words):
    library.apply(tuple(words))
    return _done(library)


def _undo(library, words):
    library.undo()
    return _done(library)


def _redo(library, words):
    library.redo()
    return _done(library)


def _names(library, words):
    return " ".join(words + library.names())


def _size(library, words):
    return f"size {len(library.language_of(words[1]))}"


def _guesses(library, words):
    # The language comes first, so that the errors are those of all lines with names.
    library.language_of(words[1])
    return harmless(library.automaton_of(words[1])).told()


def _accepts(library, words):
    lasso = Lasso.of_text(words[2])
    return "yes" if library.language_of(words[1]).accepts(lasso) else "no"


def _slips(library, words):
    lasso = Lasso.of_text(words[2])
    language = library.language_of(words[1])
    many = slips_on(Hand(language.least, language.paper), lasso)
    return "slips for ever" if many is None else f"slips {many}"


def _example(library, words):
    return "none" if library.language_of(words[1]).example() is None else "some"


def _gap(library, words):
    return "none" if library.language_of(words[1]).gap() is None else "some"


def _apart(library, words):
    one = library.language_of(words[1])
    other = library.language_of(words[2])
    return "same" if one == other else "apart"


def _stands(library, words):
    for name in words[1:]:
        library.language_of(name)
    return judge(library.automaton_of(words[1]), library.automaton_of(words[2])).told()


def _least(library, words):
    return automaton_text(library.language_of(words[1]).least).replace("\n", "; ")


# How many words the lines have, by their first words, and what answers them.
LENGTHS = {"put": 3, "change": 3, "drop": 2, "rename": 3, "undo": 1, "redo": 1, "names": 1, "size": 2,
           "guesses": 2, "accepts": 3, "slips": 3, "example": 2, "gap": 2, "apart": 3, "stands": 3, "least": 2}
REPLIES = {"put": _command, "change": _command, "drop": _command, "rename": _command, "undo": _undo,
           "redo": _redo, "names": _names, "size": _size, "guesses": _guesses, "accepts": _accepts,
           "slips": _slips, "example": _example, "gap": _gap, "apart": _apart, "stands": _stands, "least": _least}
# Their last word is a text, which may have spaces.
WITH_TEXT = ("put", "change")


def _words(line):
    """The words of a line; None if any value is no line."""
    if not isinstance(line, str):
        return None
    words = line.split(" ")
    if words[0] in WITH_TEXT:
        words = line.split(" ", 2)
    if words[0] not in LENGTHS or len(words) != LENGTHS[words[0]] or "" in words:
        return None
    return words


class Desk:
    """Answers lines about a library, and keeps them with their answers."""

    def __init__(self, library):
        self.library = library
        self._log = []

    def _told(self, line):
        """The answer to a line."""
        words = _words(line)
        if words is None:
            return "error InvalidLine"
        reply = REPLIES[words[0]]
        try:
            return reply(self.library, words)
        except (SlipError, Missing) as e:
            return f"error {e.code}"

    def answer(self, line):
        """The answer to a line, which is kept."""
        told = self._told(line)
        self._log.append((copied(line), told))
        return told

    def __call__(self, line):
        return self.answer(line)

    def log(self):
        """The list of the pairs (line, answer)."""
        return copied(self._log)

    def __len__(self):
        return len(self._log)

    def __bool__(self):
        return True

    def __repr__(self):
        return f"Desk({len(self._log)} lines)"
