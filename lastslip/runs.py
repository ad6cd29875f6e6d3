"""Runs of lassos, and which lassos an automaton accepts."""

from lastslip.graphs import endless_way, explored
from lastslip.values import copied, equal_values, is_list
from lastslip.words import check_letters, is_number


class Run:
    """A list of states and the index to which the last one goes back."""

    def __init__(self, states, turn):
        self._states = None
        if is_list(states):
            self._states = copied(list(states))
        self.turn = copied(turn)

    def states(self):
        """The list of states; None if the value was no list."""
        return copied(self._states)

    def holds(self, automaton, lasso):
        """Whether it is a run of the lasso that slips only finitely often."""
        check_letters(lasso.prefix + lasso.loop, automaton.alphabet)
        return self._is_bent_back(automaton, lasso) and self._takes_transitions(automaton, lasso)

    def _is_bent_back(self, automaton, lasso):
        """Whether the states are some, the first one is initial, and the turn fits to the lasso."""
        states = self._states
        if states is None or not all([is_number(state, 0, automaton.size - 1) for state in states]):
            return False
        last = len(states) - 1
        if not is_number(self.turn, len(lasso.prefix), last - 1):
            return False
        return (states[0] == automaton.initial and states[last] == states[self.turn]
                and (last - self.turn) % len(lasso.loop) == 0)

    def _takes_transitions(self, automaton, lasso):
        """Whether there is a transition from each state to the next one, a safe one from the turn on."""
        states = self._states
        for at in range(len(states) - 1):
            word = "safe" if at >= self.turn else None
            if states[at + 1] not in automaton.targets(states[at], lasso.letter_at(at), word):
                return False
        return True

    def __eq__(self, other):
        return (isinstance(other, Run) and equal_values(self._states, other._states)
                and equal_values(self.turn, other.turn))

    def __repr__(self):
        return f"Run(turn {self.turn})"


def accepting_run(automaton, lasso):
    """A run of the lasso that holds, or None."""
    letters = lasso.prefix + lasso.loop
    check_letters(letters, automaton.alphabet)

    def steps(place):
        state, at = place
        behind = at + 1 if at + 1 < len(letters) else len(lasso.prefix)
        return [(letters[at], (target, behind), kind == "safe", True)
                for target, kind in automaton.moves(state, letters[at])]

    places, graph = explored((automaton.initial, 0), steps)
    found = endless_way(graph)
    if found is None:
        return None
    way, circle = found
    nodes = [node for node, _ in way + circle] + [circle[0][0]]
    return Run([places[node][0] for node in nodes], len(way))


def accepts(automaton, lasso):
    """Whether the automaton accepts the lasso."""
    return accepting_run(automaton, lasso) is not None
