"""Automata compared by the infinite words that they accept."""

from lastslip.automata import Automaton
from lastslip.errors import DifferentAlphabets
from lastslip.graphs import endless_way, explored
from lastslip.trackers import beside, determinize
from lastslip.words import Lasso


def check_alphabets(one, other):
    """Raises DifferentAlphabets if the alphabets differ."""
    if one.alphabet != other.alphabet:
        raise DifferentAlphabets()


def _escape(automaton, tracker):
    """A lasso that the automaton accepts and the deterministic tracker does not, or None."""

    def steps(pair):
        return beside(automaton, tracker, pair)

    _, graph = explored((automaton.initial, tracker.initial), steps)
    found = endless_way(graph)
    if found is None:
        return None
    way, circle = found
    return Lasso("".join([letter for _, letter in way]), "".join([letter for _, letter in circle]))


def beyond(one, other):
    """A lasso that the first automaton accepts and the second one does not, or None."""
    check_alphabets(one, other)
    return _escape(one, determinize(other))


def separating(one, other):
    """A lasso that just one of the automata accepts, or None."""
    check_alphabets(one, other)
    # Both trackers come first: if one is too great, this is raised even where there is a lasso.
    first = determinize(one)
    second = determinize(other)
    found = _escape(first, second)
    return _escape(second, first) if found is None else found


def within(one, other):
    """Whether the second automaton accepts all infinite words that the first one accepts."""
    return beyond(one, other) is None


def same_words(one, other):
    """Whether both automata accept the same infinite words."""
    return separating(one, other) is None


def _constant(alphabet, kind):
    """The automaton with one state whose transitions are all of one kind."""
    return Automaton.deterministic(alphabet, [[(0, kind)] * len(alphabet)])


def accepted_word(automaton):
    """A lasso that the automaton accepts, or None."""
    return _escape(automaton, _constant(automaton.alphabet, "slip"))


def refused_word(automaton):
    """A lasso that the automaton does not accept, or None."""
    return beyond(_constant(automaton.alphabet, "safe"), automaton)
