"""The states of a deterministic automaton, compared by their infinite words and their safe words."""

from lastslip.components import components, normal
from lastslip.errors import InvalidState, InvalidWord, NotDeterministic
from lastslip.graphs import leading, part_numbers
from lastslip.relations import separating
from lastslip.words import check_letters, is_number, is_word


def _check_deterministic(automaton):
    """Raises NotDeterministic with the first state and letter with several transitions."""
    for state in range(automaton.size):
        for letter in automaton.alphabet:
            if len(automaton.moves(state, letter)) > 1:
                raise NotDeterministic(state, letter)


def _pairs(steps):
    """For each pair of states, by its number, the list of the pairs of their steps (target, kind)."""
    return [list(zip(first, second)) for first in steps for second in steps]


def _find_escaping(steps):
    """For each pair of states whether the first one has an infinite word that the second one has not."""
    pairs = _pairs(steps)
    targets = [[one[0] * len(steps) + other[0] for one, other in row] for row in pairs]
    staying = [[target for target, (one, _) in zip(late, row) if one[1] == "safe"]
               for late, row in zip(targets, pairs)]
    numbers = part_numbers(staying)
    # Around a circle on which only the second state slips, the first one has such a word.
    circling = [any([one[1] == "safe" and other[1] == "slip" and numbers[target] == numbers[pair]
                     for target, (one, other) in zip(targets[pair], row)])
                for pair, row in enumerate(pairs)]
    return leading(targets, circling)


def _find_safely_escaping(steps):
    """For each pair of states whether the first one has a safe word that the second one has not."""
    pairs = _pairs(steps)
    targets = [[one[0] * len(steps) + other[0] for one, other in row if one[1] == other[1] == "safe"]
               for row in pairs]
    slipping = [any([one[1] == "safe" and other[1] == "slip" for one, other in row]) for row in pairs]
    return leading(targets, slipping)


def _find_ranks(steps):
    """For each state how many sets of safe words come before its own one."""
    ranks = [0] * len(steps)
    while True:
        # Ranks by the words up to some length give those by the words with one more letter: what is
        # shorter counts first, and then the letters in order. A slip leaves no words, and comes last.
        keys = [(ranks[state], *[ranks[target] if kind == "safe" else len(steps) for target, kind in row])
                for state, row in enumerate(steps)]
        places = {key: at for at, key in enumerate(sorted(set(keys)))}
        late = [places[key] for key in keys]
        if late == ranks:
            return ranks
        ranks = late


class Survey:
    """The states of a deterministic automaton, compared with each other."""

    def __init__(self, automaton):
        _check_deterministic(automaton)
        self.automaton = normal(automaton)
        self._steps = [[self.automaton.moves(state, letter)[0] for letter in automaton.alphabet]
                       for state in range(automaton.size)]
        self._escaping = _find_escaping(self._steps)
        self._safely_escaping = _find_safely_escaping(self._steps)
        self._ranks = _find_ranks(self._steps)

    def _check(self, states):
        """Raises InvalidState with the first of some values that is no state."""
        for state in states:
            if not is_number(state, 0, self.automaton.size - 1):
                raise InvalidState(state)

    def _number(self, one, other):
        """The number of a pair of states."""
        self._check([one, other])
        return one * self.automaton.size + other

    def kin(self, one, other):
        """Whether the states have the same infinite words."""
        return not self._escaping[self._number(one, other)] and not self._escaping[self._number(other, one)]

    def safe_within(self, one, other):
        """Whether each safe word of the first state is one of the second one."""
        return not self._safely_escaping[self._number(one, other)]

    def below(self, one, other):
        """Whether the states are kin, and each safe word of the first one is one of the second one."""
        return self.kin(one, other) and self.safe_within(one, other)

    def alike(self, one, other):
        """Whether each of the states is below the other one."""
        return self.below(one, other) and self.below(other, one)

    def rank(self, state):
        """How many different sets of safe words of states come before that of the state."""
        self._check([state])
        return self._ranks[state]

    def is_safe(self, state, word):
        """Whether the word is a safe word of the state."""
        self._check([state])
        if not is_word(word):
            raise InvalidWord(word)
        check_letters(word, self.automaton.alphabet)
        for letter in word:
            state, kind = self.automaton.moves(state, letter)[0]
            if kind == "slip":
                return False
        return True

    def lasso_apart(self, one, other):
        """A lasso that is an infinite word of just one of the states, or None."""
        return separating(self.automaton.begun_at(one), self.automaton.begun_at(other))

    def word_apart(self, one, other):
        """The first word that is a safe word of just one of the states, or None."""
        self._check([one, other])
        words = {(one, other): ""}
        pairs = [(one, other)]
        at = 0
        while at < len(pairs):
            first, second = pairs[at]
            word = words[pairs[at]]
            at += 1
            for letter, left, right in zip(self.automaton.alphabet, self._steps[first], self._steps[second]):
                if left[1] != right[1]:
                    return word + letter
                pair = (left[0], right[0])
                if left[1] == "safe" and pair not in words:
                    words[pair] = word + letter
                    pairs.append(pair)
        return None

    def _found(self):
        """The reachable states, ordered by the first words that lead to them."""
        states = [self.automaton.initial]
        seen = {self.automaton.initial: True}
        at = 0
        while at < len(states):
            state = states[at]
            for target, _ in self._steps[state]:
                if target not in seen:
                    seen[target] = True
                    states.append(target)
            at += 1
        return states

    def groups(self):
        """The lots of reachable states that are kin, ordered by the first words that lead to them."""
        groups = []
        for state in self._found():
            near = [group for group in groups if self.kin(group[0], state)]
            if near:
                near[0].append(state)
            else:
                groups.append([state])
        return [sorted(group) for group in groups]

    def kept(self):
        """The kept components as ascending lists, ordered by their least states."""
        reachable = {state: True for state in self.automaton.reachable()}
        parts = [part for part in components(self.automaton) if part[0] in reachable]
        return [part for part in parts if all([self._stays_beside(part, other) for other in parts])]

    def _stays_beside(self, part, other):
        """Whether a component is kept as far as another one, or itself, is concerned."""
        return not self._is_covered(part, other) or (self._is_covered(other, part) and part[0] <= other[0])

    def _is_covered(self, part, other):
        """Whether some state of a component is below some state of another one."""
        return any([self.below(one, late) for one in part for late in other])
