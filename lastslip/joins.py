"""Automata that are joined from others."""

from lastslip.automata import Automaton
from lastslip.errors import InvalidAlphabet, InvalidWord, TooMany
from lastslip.graphs import explored
from lastslip.relations import check_alphabets
from lastslip.words import check_letters, is_word


def _check_size(size):
    """Raises TooMany if there are more states than an automaton may have."""
    if size > Automaton.MOST:
        raise TooMany(Automaton.MOST)


def _shifted(automaton, many):
    """The transitions of an automaton whose states come behind so many other ones."""
    return [(source + many, letter, target + many, kind)
            for source, letter, target, kind in automaton.transitions()]


def both(one, other):
    """The automaton of the infinite words that both automata accept."""
    check_alphabets(one, other)

    def steps(pair):
        return [(letter, (first[0], second[0]), first[1] == second[1] == "safe", True) for letter in one.alphabet
                for first in one.moves(pair[0], letter) for second in other.moves(pair[1], letter)]

    pairs, graph = explored((one.initial, other.initial), steps, Automaton.MOST)
    _check_size(len(pairs))
    places = {pair: place for place, pair in enumerate(sorted(pairs))}
    transitions = [(places[pair], letter, places[pairs[target]], "safe" if safe else "slip")
                   for pair, arrows in zip(pairs, graph) for letter, target, safe, _ in arrows]
    return Automaton(one.alphabet, len(pairs), transitions, initial=places[pairs[0]])


def either(one, other):
    """The automaton of the infinite words that one of the automata accepts, or both."""
    check_alphabets(one, other)
    _check_size(1 + one.size + other.size)
    transitions = []
    for automaton, many in ((one, 1), (other, 1 + one.size)):
        late = _shifted(automaton, many)
        transitions.extend(late)
        transitions.extend([(0, letter, target, kind) for source, letter, target, kind in late
                            if source == automaton.initial + many])
    return Automaton(one.alphabet, 1 + one.size + other.size, transitions)


def behind(word, automaton):
    """The automaton of the infinite words that begin with a word and go on with one of the automaton."""
    if not is_word(word):
        raise InvalidWord(word)
    alphabet = automaton.alphabet
    check_letters(word, alphabet)
    if word == "":
        return automaton
    end = len(word) + automaton.size
    size = end + 1 if len(alphabet) > 1 else end
    _check_size(size)
    transitions = _shifted(automaton, len(word))
    transitions.extend([(end, letter, end, "slip") for letter in alphabet if size > end])
    for state, due in enumerate(word):
        late = state + 1 if state + 1 < len(word) else automaton.initial + len(word)
        transitions.extend([(state, letter, late, "safe") if letter == due else (state, letter, end, "slip")
                            for letter in alphabet])
    return Automaton(alphabet, size, transitions)


def renamed(automaton, letters):
    """The automaton in which the letters of the alphabet, in order, are replaced by other ones."""
    many = len(automaton.alphabet)
    if not is_word(letters, many) or len(set(letters)) != many:
        raise InvalidAlphabet(letters)
    names = {old: new for old, new in zip(automaton.alphabet, letters)}
    transitions = [(source, names[letter], target, kind)
                   for source, letter, target, kind in automaton.transitions()]
    return Automaton("".join(sorted(letters)), automaton.size, transitions, initial=automaton.initial)
