"""Automata on infinite words, whose transitions are safe or slips."""

from lastslip.errors import Incomplete, InvalidAlphabet, InvalidOrder, InvalidSize, InvalidState
from lastslip.errors import InvalidTransitions, StrangeLetter
from lastslip.values import is_list
from lastslip.words import is_alphabet, is_letter, is_number

KINDS = ("safe", "slip")


def _is_move(value, size):
    """Whether any value is a pair (target, kind)."""
    return (isinstance(value, tuple) and len(value) == 2
            and is_number(value[0], 0, size - 1) and value[1] in KINDS)


def _is_row(value, letters, size):
    """Whether any value is a list of one pair (target, kind) for each of so many letters."""
    return is_list(value) and len(value) == letters and all([_is_move(pair, size) for pair in value])


def _is_transition(value, alphabet, size):
    """Whether any value is a tuple (source, letter, target, kind)."""
    return (isinstance(value, tuple) and len(value) == 4 and is_number(value[0], 0, size - 1)
            and is_letter(value[1], alphabet) and _is_move(value[2:], size))


def _wrong_at(transitions, alphabet, size):
    """The index of the first wrong transition; -1 if there is no list, None if none is wrong."""
    if not is_list(transitions):
        return -1
    seen = {}
    for at, value in enumerate(transitions):
        if not _is_transition(value, alphabet, size) or value[:3] in seen:
            return at
        seen[value[:3]] = True
    return None


def _rows_of(transitions, alphabet, size):
    """For each state the ascending pairs (target, kind) by each letter."""
    rows = [{letter: [] for letter in alphabet} for _ in range(size)]
    for source, letter, target, kind in sorted(transitions):
        rows[source][letter].append((target, kind))
    return rows


def _check_complete(rows, alphabet):
    """Raises Incomplete with the first state and letter without a transition."""
    for state, row in enumerate(rows):
        for letter in alphabet:
            if not row[letter]:
                raise Incomplete(state, letter)


class Automaton:
    """An automaton: it accepts an infinite word if some run on it slips only finitely often."""

    MOST = 65

    def __init__(self, alphabet, size, transitions, *, initial=0):
        if not is_alphabet(alphabet):
            raise InvalidAlphabet(alphabet)
        if not is_number(size, 1, Automaton.MOST):
            raise InvalidSize(size)
        wrong = _wrong_at(transitions, alphabet, size)
        if wrong is not None:
            raise InvalidTransitions(wrong)
        if not is_number(initial, 0, size - 1):
            raise InvalidState(initial)
        rows = _rows_of(transitions, alphabet, size)
        _check_complete(rows, alphabet)
        self.alphabet = alphabet
        self.size = size
        self.initial = initial
        self._rows = rows

    @classmethod
    def deterministic(cls, alphabet, rows, *, initial=0):
        """The automaton with one row of pairs (target, kind) for each state."""
        if not is_alphabet(alphabet):
            raise InvalidAlphabet(alphabet)
        if not is_list(rows) or not is_number(len(rows), 1, Automaton.MOST):
            raise InvalidTransitions(-1)
        for at, row in enumerate(rows):
            if not _is_row(row, len(alphabet), len(rows)):
                raise InvalidTransitions(at)
        transitions = [(source, letter, pair[0], pair[1])
                       for source, row in enumerate(rows) for letter, pair in zip(alphabet, row)]
        return cls(alphabet, len(rows), transitions, initial=initial)

    def moves(self, state, letter):
        """The ascending list of the pairs (target, kind) of the transitions."""
        if not is_number(state, 0, self.size - 1):
            raise InvalidState(state)
        if not is_letter(letter, self.alphabet):
            raise StrangeLetter(letter)
        return list(self._rows[state][letter])

    def targets(self, state, letter, word=None):
        """The ascending list of the targets, of one kind if there is a third argument."""
        return [target for target, kind in self.moves(state, letter) if word is None or kind == word]

    def transitions(self):
        """The ascending list of all transitions."""
        return [(source, letter, target, kind) for source, row in enumerate(self._rows)
                for letter in self.alphabet for target, kind in row[letter]]

    @property
    def is_deterministic(self):
        """Whether there is just one transition for each state and letter."""
        return all([len(row[letter]) == 1 for row in self._rows for letter in self.alphabet])

    def reachable(self):
        """The ascending list of the states to which a word leads from the initial state."""
        seen = {self.initial: True}
        waiting = [self.initial]
        while waiting:
            state = waiting.pop()
            for letter in self.alphabet:
                for target in self.targets(state, letter):
                    if target not in seen:
                        seen[target] = True
                        waiting.append(target)
        return sorted(list(seen))

    def renumbered(self, order):
        """The automaton in which the state order[i] is the state i."""
        if not is_list(order) or not all([is_number(state, 0, self.size - 1) for state in order]):
            raise InvalidOrder(order)
        if sorted(order) != list(range(self.size)):
            raise InvalidOrder(order)
        return self._picked(order)

    def trimmed(self):
        """The automaton of the reachable states, numbered in their order."""
        return self._picked(self.reachable())

    def _picked(self, order):
        """The automaton of some states, which no transition leaves, numbered in this order."""
        place = {state: at for at, state in enumerate(order)}
        transitions = [(place[source], letter, place[target], kind)
                       for source, letter, target, kind in self.transitions() if source in place]
        return Automaton(self.alphabet, len(order), transitions, initial=place[self.initial])

    def begun_at(self, state):
        """The same automaton with another initial state."""
        return Automaton(self.alphabet, self.size, self.transitions(), initial=state)

    def __len__(self):
        return len(self._rows)

    def __eq__(self, other):
        return (isinstance(other, Automaton) and self.alphabet == other.alphabet
                and self.initial == other.initial and self._rows == other._rows)

    def __repr__(self):
        return f"Automaton({self.size} states, {len(self.transitions())} transitions)"
