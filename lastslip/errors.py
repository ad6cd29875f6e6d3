"""The errors of the package: each names its code and keeps what it was called with."""

from lastslip.values import copied


class SlipError(ValueError):
    """What is wrong with a value that was passed, or with a state that was reached."""

    def __init__(self, code):
        self.code = copied(code)


class Missing(LookupError):
    """What was looked for and is not there."""

    def __init__(self, code):
        self.code = copied(code)


class InvalidAlphabet(SlipError):
    """No alphabet."""

    def __init__(self, given):
        SlipError.__init__(self, "InvalidAlphabet")
        self.given = copied(given)


class InvalidSize(SlipError):
    """No number of states."""

    def __init__(self, given):
        SlipError.__init__(self, "InvalidSize")
        self.given = copied(given)


class InvalidState(SlipError):
    """No state of the automaton."""

    def __init__(self, given):
        SlipError.__init__(self, "InvalidState")
        self.given = copied(given)


class InvalidOrder(SlipError):
    """No list of all states, each once."""

    def __init__(self, given):
        SlipError.__init__(self, "InvalidOrder")
        self.given = copied(given)


class InvalidWord(SlipError):
    """No word, lasso, index or number of letters."""

    def __init__(self, given):
        SlipError.__init__(self, "InvalidWord")
        self.given = copied(given)


class InvalidName(SlipError):
    """No name."""

    def __init__(self, given):
        SlipError.__init__(self, "InvalidName")
        self.given = copied(given)


class InvalidLimit(SlipError):
    """No limit."""

    def __init__(self, given):
        SlipError.__init__(self, "InvalidLimit")
        self.given = copied(given)


class InvalidNode(SlipError):
    """No node of the board."""

    def __init__(self, given):
        SlipError.__init__(self, "InvalidNode")
        self.given = copied(given)


class StrangeLetter(SlipError):
    """No letter of the alphabet."""

    def __init__(self, given):
        SlipError.__init__(self, "StrangeLetter")
        self.given = copied(given)


class InvalidTransitions(SlipError):
    """The index of a wrong transition, or -1."""

    def __init__(self, at):
        SlipError.__init__(self, "InvalidTransitions")
        self.at = copied(at)


class InvalidOwners(SlipError):
    """The index of a wrong owner, or -1."""

    def __init__(self, at):
        SlipError.__init__(self, "InvalidOwners")
        self.at = copied(at)


class InvalidMoves(SlipError):
    """The index of a wrong move, or -1."""

    def __init__(self, at):
        SlipError.__init__(self, "InvalidMoves")
        self.at = copied(at)


class InvalidWish(SlipError):
    """The index of a wrong token, or -1."""

    def __init__(self, at):
        SlipError.__init__(self, "InvalidWish")
        self.at = copied(at)


class InvalidCommand(SlipError):
    """The index of a value that is no command."""

    def __init__(self, at):
        SlipError.__init__(self, "InvalidCommand")
        self.at = copied(at)


class InvalidText(SlipError):
    """The wrong line of a text."""

    def __init__(self, line):
        SlipError.__init__(self, "InvalidText")
        self.line = copied(line)


class InvalidPage(SlipError):
    """The wrong line of a page."""

    def __init__(self, line):
        SlipError.__init__(self, "InvalidPage")
        self.line = copied(line)


class TooMany(SlipError):
    """More than the most."""

    def __init__(self, most):
        SlipError.__init__(self, "TooMany")
        self.most = copied(most)


class DeadEnd(SlipError):
    """A node without a move."""

    def __init__(self, node):
        SlipError.__init__(self, "DeadEnd")
        self.node = copied(node)


class DuplicateName(SlipError):
    """A name that there is already."""

    def __init__(self, name):
        SlipError.__init__(self, "DuplicateName")
        self.name = copied(name)


class InUse(SlipError):
    """A name that another wish uses."""

    def __init__(self, name, user):
        SlipError.__init__(self, "InUse")
        self.name = copied(name)
        self.user = copied(user)


class Incomplete(SlipError):
    """A state without a transition for a letter."""

    def __init__(self, state, letter):
        SlipError.__init__(self, "Incomplete")
        self.state = copied(state)
        self.letter = copied(letter)


class NotDeterministic(SlipError):
    """A state with several transitions for a letter."""

    def __init__(self, state, letter):
        SlipError.__init__(self, "NotDeterministic")
        self.state = copied(state)
        self.letter = copied(letter)


class DifferentAlphabets(SlipError):
    """Automata with different alphabets."""

    def __init__(self):
        SlipError.__init__(self, "DifferentAlphabets")


class HarmfulGuesses(SlipError):
    """An automaton whose guesses are harmful."""

    def __init__(self):
        SlipError.__init__(self, "HarmfulGuesses")


class WrongPaper(SlipError):
    """No certificate that holds."""

    def __init__(self):
        SlipError.__init__(self, "WrongPaper")


class UnknownName(Missing):
    """A name that there is not."""

    def __init__(self, name):
        Missing.__init__(self, "UnknownName")
        self.name = copied(name)


class NothingLeft(Missing):
    """Nothing to go back to."""

    def __init__(self):
        Missing.__init__(self, "NothingLeft")
