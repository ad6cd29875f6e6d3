"""The least automaton with the same infinite words and harmless guesses, and its hand."""

from lastslip.automata import Automaton
from lastslip.components import normal
from lastslip.graphs import travelled
from lastslip.papers import Harmless, check_paper, used, visited
from lastslip.surveys import Survey
from lastslip.trackers import determinize


class Basis:
    """The states of a survey for which the states of the least automaton stand."""

    def __init__(self, survey):
        self.survey = survey
        # For each reachable state the number of its group of kin.
        self.numbers = {state: number for number, group in enumerate(survey.groups()) for state in group}
        lots = {}
        for part in survey.kept():
            for state in part:
                # Kin with equal sets of safe words are alike.
                lots.setdefault((self.numbers[state], survey.rank(state)), state)
        self._keys = sorted(list(lots))
        # For each state of the least automaton a state for which it stands.
        self.standing = [lots[key] for key in self._keys]

    def _after(self, state, letter):
        """The pairs (target, kind) of the least automaton by a letter from what stands for a state."""
        target, kind = self.survey.automaton.moves(state, letter)[0]
        group = self.numbers[target]
        if kind == "safe":
            return [(self._keys.index((group, self.survey.rank(target))), kind)]
        return [(number, kind) for number, key in enumerate(self._keys) if key[0] == group]

    def is_above(self, number, state):
        """Whether a state is below those for which a state of the least automaton stands."""
        return self.survey.below(state, self.standing[number])

    def first_above(self, state):
        """The first state of the least automaton that stands for states which a state is below."""
        return [number for number in range(len(self.standing)) if self.is_above(number, state)][0]

    def built(self):
        """The least automaton."""
        alphabet = self.survey.automaton.alphabet
        transitions = [(number, letter, target, kind) for number, state in enumerate(self.standing)
                       for letter in alphabet for target, kind in self._after(state, letter)]
        return Automaton(alphabet, len(self.standing), transitions)


def _followed(automaton):
    """A deterministic automaton with the same infinite words and without unreachable states."""
    return automaton.trimmed() if automaton.is_deterministic else determinize(automaton)


def least(automaton):
    """The least automaton with the same infinite words and harmless guesses."""
    return Basis(Survey(_followed(automaton))).built()


def least_paper(automaton):
    """The hand of the least automaton, as a certificate."""
    basis = Basis(Survey(_followed(automaton)))
    lean = basis.built()
    tracker = basis.survey.automaton

    def step(position, letter):
        late = tracker.targets(position[1], letter)[0]
        target, kind = lean.moves(position[0], letter)[0]
        return (basis.first_above(late), late) if kind == "slip" else (target, late)

    rows = travelled((lean.initial, tracker.initial), lean.alphabet, step)
    moves = [(*position, letter, late[0]) for position, letter, late in rows]
    ranks = sorted({(*position, 0 if basis.is_above(*position) else 1) for position, _, _ in rows})
    return Harmless(tracker, sorted(moves), ranks)


def _safe_rows(automaton):
    """For each state and letter the targets of the safe transitions in the normal form."""
    plain = normal(automaton)
    return [[plain.targets(state, letter, "safe") for letter in plain.alphabet] for state in range(plain.size)]


def _has_same_safe_words(rows, state, late_rows, late):
    """Whether a state of one automaton has the same safe words as a state of another one."""
    waiting = [((state,), (late,))]
    seen = {waiting[0]: True}
    while waiting:
        places, lates = waiting.pop()
        for letter in range(len(rows[state])):
            first = tuple(sorted({target for place in places for target in rows[place][letter]}))
            second = tuple(sorted({target for place in lates for target in late_rows[place][letter]}))
            if (len(first) == 0) != (len(second) == 0):
                return False
            if first and (first, second) not in seen:
                seen[first, second] = True
                waiting.append((first, second))
    return True


def _fair_part(automaton, transitions):
    """The automaton of some transitions, and the ascending list of its states."""
    states = sorted({source for source, _, _, _ in transitions})
    places = {state: at for at, state in enumerate(states)}
    rows = [(places[source], letter, places[target], kind) for source, letter, target, kind in transitions]
    return Automaton(automaton.alphabet, len(states), rows, initial=places[automaton.initial]), states


def embedding(automaton, paper):
    """For each state of the least automaton the least state of the fair part with the same words."""
    check_paper(automaton, paper)
    # The tracker of a paper that holds accepts the same infinite words as the automaton, and a
    # state has those of each tracked state beside it.
    basis = Basis(Survey(paper.tracker))
    groups = {position[0]: basis.numbers[position[1]] for position, _, _ in visited(automaton, paper)}
    fair, states = _fair_part(automaton, used(automaton, paper))
    fair_rows = _safe_rows(fair)
    lean_rows = _safe_rows(basis.built())
    found = []
    for number, standing in enumerate(basis.standing):
        same = [state for place, state in enumerate(states) if groups[state] == basis.numbers[standing]
                and _has_same_safe_words(fair_rows, place, lean_rows, number)]
        found.append(same[0])
    return found
