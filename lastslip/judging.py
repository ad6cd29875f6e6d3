"""Whether an automaton can stand for another one: the same words and harmless guesses."""

from lastslip.papers import Harmless, harmless
from lastslip.relations import beyond, separating
from lastslip.runs import accepts
from lastslip.values import copied, equal_values
from lastslip.words import Lasso


class Parted:
    """A lasso that just one of two automata accepts; accepted tells whether it is the first one."""

    def __init__(self, lasso, accepted):
        self.lasso = copied(lasso)
        self.accepted = copied(accepted)

    def told(self):
        """What is said of the two automata."""
        return "parted"

    def holds(self, automaton, wanted):
        """Whether the automaton accepts the lasso if accepted is True, and the wanted one if it is False."""
        if not isinstance(self.lasso, Lasso) or not isinstance(self.accepted, bool):
            return False
        if automaton.alphabet != wanted.alphabet or self.lasso.letters().strip(automaton.alphabet) != "":
            return False
        return accepts(automaton, self.lasso) == self.accepted != accepts(wanted, self.lasso)

    def __eq__(self, other):
        return (isinstance(other, Parted) and equal_values(self.lasso, other.lasso)
                and equal_values(self.accepted, other.accepted))

    def __repr__(self):
        return f"parted by {self.lasso}"


def judge(automaton, wanted):
    """A Parted that holds, if the automata accept different words; otherwise what is said of the guesses."""
    lasso = separating(automaton, wanted)
    if lasso is None:
        return harmless(automaton)
    early = beyond(automaton, wanted)
    return Parted(lasso, False) if early is None else Parted(early, True)


def can_stand_for(automaton, wanted):
    """Whether the automaton accepts the same words as the wanted one, and its guesses are harmless."""
    return isinstance(judge(automaton, wanted), Harmless)
