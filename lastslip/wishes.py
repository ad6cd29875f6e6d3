"""Wishes: a small language for sets of infinite words, and the automata of wishes."""

from lastslip.automata import Automaton
from lastslip.errors import InvalidName, InvalidWish, InvalidWord, UnknownName
from lastslip.joins import behind, both, either
from lastslip.words import check_letters, is_number, is_word

LONGEST_NAME = 8
LONGEST_PART = 6
MOST_TOKENS = 20
JOINS = ("both", "either")
# How many words a token of each form has at most, and how many wishes it takes. What begins with
# none of these forms is a name, which takes no wish.
MOST_WORDS = {"never:": 4, "blocks:": 4, "behind:": 1, "both": 0, "either": 0}
TAKEN = {"behind:": 1, "both": 2, "either": 2}


def is_name(value):
    """Whether any value is a name."""
    return is_word(value, LONGEST_NAME) and value != "" and value not in JOINS


def _is_part(value):
    """Whether any value is a word that a token may have."""
    return is_word(value, LONGEST_PART) and value != ""


def _check_part(value):
    """Raises InvalidWord unless any value is a word that a token may have."""
    if not _is_part(value):
        raise InvalidWord(value)


def _listed(form, values):
    """The ascending words among some values, each once, which a token of this form may have."""
    for value in values:
        _check_part(value)
    if not is_number(len(values), 1, MOST_WORDS[form]):
        raise InvalidWord("")
    return sorted(set(values))


def _split(token):
    """The form of a token, and its words; a name is a form of its own."""
    head, colon, rest = token.partition(":")
    return head + colon, rest.split(",") if colon else []


def _is_token(token, many):
    """Whether a string is a token that can stand behind so many wishes."""
    form, words = _split(token)
    if form not in MOST_WORDS:
        return is_name(token)
    return (all([_is_part(word) for word in words]) and len(words) <= MOST_WORDS[form]
            and TAKEN.get(form, 0) <= many)


def _starts(words):
    """The ascending list of the words' prefixes that are shorter than their word."""
    return sorted({word[:many] for word in words for many in range(len(word))})


def _longest_end(word, states):
    """The index of the longest state that is an end of a word."""
    ends = [word[at:] for at in range(len(word) + 1) if word[at:] in states]
    return states.index(ends[0])


def _never(words, alphabet):
    """The automaton of the infinite words in which the words occur only finitely often."""
    states = _starts(words)
    transitions = []
    for source, state in enumerate(states):
        for letter in alphabet:
            late = state + letter
            kind = "slip" if any([late.endswith(word) for word in words]) else "safe"
            transitions.append((source, letter, _longest_end(late, states), kind))
    return Automaton(alphabet, len(states), transitions)


def _blocks(words, alphabet):
    """The automaton of the infinite words that end in a sequence of the words."""
    states = _starts(words)
    transitions = []
    for source, state in enumerate(states):
        for letter in alphabet:
            late = state + letter
            transitions.append((source, letter, 0, "safe" if late in words else "slip"))
            if late in states:
                transitions.append((source, letter, states.index(late), "safe"))
    return Automaton(alphabet, len(states), transitions)


class Wish:
    """A set of infinite words, told by tokens.

    Each class under it has a method built, which makes the automaton when all letters and names are known.
    """

    def __init__(self, tokens):
        self._tokens = list(tokens)

    def tokens(self):
        """The list of the tokens of its text."""
        return list(self._tokens)

    def text(self):
        """The tokens, separated by spaces."""
        return " ".join(self._tokens)

    def names(self):
        """The ascending list of the names that occur, each once."""
        return sorted({token for token in self._tokens if is_name(token)})

    def needed(self):
        """The ascending string of the letters that occur in its words."""
        words = [word for token in self._tokens for word in _split(token)[1]]
        return "".join(sorted(set("".join(words))))

    def compiled(self, alphabet, table=None):
        """The automaton of the wish; the table has the automata of names."""
        check_letters(self.needed(), alphabet)
        known = {} if table is None else table
        for token in self._tokens:
            if is_name(token) and token not in known:
                raise UnknownName(token)
        return self.built(alphabet, known)

    def __and__(self, other):
        return Both(self, other)

    def __or__(self, other):
        return Either(self, other)

    def __eq__(self, other):
        return isinstance(other, Wish) and self._tokens == other._tokens

    def __repr__(self):
        return f"Wish({self.text()})"


class Never(Wish):
    """From some index on none of the words occurs."""

    def __init__(self, *words):
        self._words = _listed("never:", words)
        Wish.__init__(self, ["never:" + ",".join(self._words)])

    def built(self, alphabet, table):
        """The automaton of the wish."""
        return _never(self._words, alphabet)


class Blocks(Wish):
    """From some index on the infinite word is a sequence of the words."""

    def __init__(self, *words):
        self._words = _listed("blocks:", words)
        Wish.__init__(self, ["blocks:" + ",".join(self._words)])

    def built(self, alphabet, table):
        """The automaton of the wish."""
        return _blocks(self._words, alphabet)


class Behind(Wish):
    """The infinite word begins with the word, and goes on as the part says."""

    def __init__(self, word, part):
        _check_part(word)
        self._word = word
        self._part = part
        Wish.__init__(self, part.tokens() + ["behind:" + word])

    def built(self, alphabet, table):
        """The automaton of the wish."""
        return behind(self._word, self._part.built(alphabet, table))


class Both(Wish):
    """Both wishes."""

    def __init__(self, one, other):
        self._one = one
        self._other = other
        Wish.__init__(self, one.tokens() + other.tokens() + ["both"])

    def built(self, alphabet, table):
        """The automaton of the wish."""
        return both(self._one.built(alphabet, table), self._other.built(alphabet, table))


class Either(Wish):
    """One of the wishes, or both."""

    def __init__(self, one, other):
        self._one = one
        self._other = other
        Wish.__init__(self, one.tokens() + other.tokens() + ["either"])

    def built(self, alphabet, table):
        """The automaton of the wish."""
        return either(self._one.built(alphabet, table), self._other.built(alphabet, table))


class Named(Wish):
    """The wish that has this name."""

    def __init__(self, name):
        if not is_name(name):
            raise InvalidName(name)
        self._name = name
        Wish.__init__(self, [name])

    def built(self, alphabet, table):
        """The automaton of the wish."""
        return table[self._name]


def _wish_of(token, stack):
    """The wish that a token adds, made of those that it takes from the stack."""
    form, words = _split(token)
    if form == "never:":
        return Never(*words)
    if form == "blocks:":
        return Blocks(*words)
    if form == "behind:":
        return Behind(words[0], stack.pop())
    if form in JOINS:
        other = stack.pop()
        one = stack.pop()
        return Both(one, other) if form == "both" else Either(one, other)
    return Named(token)


def read_wish(text):
    """The wish with a text."""
    if not isinstance(text, str) or text == "":
        raise InvalidWish(-1)
    stack = []
    for at, token in enumerate(text.split(" ")):
        if at == MOST_TOKENS or not _is_token(token, len(stack)):
            raise InvalidWish(at)
        stack.append(_wish_of(token, stack))
    if len(stack) > 1:
        raise InvalidWish(-1)
    return stack[0]
