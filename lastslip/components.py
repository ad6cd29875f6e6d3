"""The safe components of an automaton, and its normal form."""

from lastslip.automata import Automaton
from lastslip.graphs import part_numbers, strong_parts


def _safe_targets(automaton):
    """For each state the targets of its safe transitions."""
    return [[target for letter in automaton.alphabet for target in automaton.targets(state, letter, "safe")]
            for state in range(automaton.size)]


def components(automaton):
    """The safe components as ascending lists, ordered by their least states."""
    return strong_parts(_safe_targets(automaton))


def normal(automaton):
    """The automaton with slips in the place of the safe transitions between components."""
    numbers = part_numbers(_safe_targets(automaton))
    transitions = []
    for source, letter, target, kind in automaton.transitions():
        word = kind if numbers[source] == numbers[target] else "slip"
        transitions.append((source, letter, target, word))
    return Automaton(automaton.alphabet, automaton.size, transitions, initial=automaton.initial)
