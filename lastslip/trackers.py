"""Trackers: deterministic automata that follow all runs of an automaton at once."""

from lastslip.automata import Automaton
from lastslip.errors import InvalidWord, TooMany
from lastslip.graphs import explored
from lastslip.words import check_letters, is_word


def _arrived(automaton, states, letter, word):
    """The ascending tuple of the targets of some states, of one kind unless the word is None."""
    return tuple(sorted({target for state in states for target in automaton.targets(state, letter, word)}))


def _next_pair(automaton, pair, letter):
    """The pair behind a letter, and the kind of the transition to it."""
    reached = _arrived(automaton, pair[0], letter, None)
    held = _arrived(automaton, pair[1], letter, "safe")
    if held:
        return (reached, held), "safe"
    return (reached, reached), "slip"


def _tracked(automaton):
    """The pairs of the tracker, and for each pair its row of (number of the target, kind)."""

    def steps(pair):
        found = [_next_pair(automaton, pair, letter) for letter in automaton.alphabet]
        return [("", late, kind == "safe", True) for late, kind in found]

    # There may be too many pairs to find them all before they are counted.
    first = ((automaton.initial,), (automaton.initial,))
    pairs, graph = explored(first, steps, Automaton.MOST)
    if len(pairs) > Automaton.MOST:
        raise TooMany(Automaton.MOST)
    return pairs, [[(target, "safe" if safe else "slip") for _, target, safe, _ in row] for row in graph]


def determinize(automaton):
    """The tracker of the automaton."""
    _, rows = _tracked(automaton)
    return Automaton.deterministic(automaton.alphabet, rows)


def pairs_of(automaton):
    """The list of the pairs (reached, held) of the tracker, in their order."""
    pairs, _ = _tracked(automaton)
    return pairs


def after(automaton, word):
    """The tracker, begun at the state to which the word leads, and trimmed."""
    if not is_word(word):
        raise InvalidWord(word)
    check_letters(word, automaton.alphabet)
    tracker = determinize(automaton)
    state = tracker.initial
    for letter in word:
        state = tracker.targets(state, letter)[0]
    return tracker.begun_at(state).trimmed()


def beside(automaton, tracker, pair):
    """The arrows (letter, pair, safe, reset) from a state beside a state of a deterministic tracker.

    A transition of the automaton is safe or not, and the tracker resets where it slips.
    """
    arrows = []
    for letter in automaton.alphabet:
        tracked, word = tracker.moves(pair[1], letter)[0]
        for target, kind in automaton.moves(pair[0], letter):
            arrows.append((letter, (target, tracked), kind == "safe", word == "slip"))
    return arrows
