"""Automata written as texts, line by line."""

from lastslip.automata import KINDS, Automaton
from lastslip.errors import Incomplete, InvalidText
from lastslip.words import is_alphabet, is_letter


def lines_of(text):
    """The lines of a text; None if any value is no string, is empty or does not end with a line feed."""
    if not isinstance(text, str) or not text.endswith("\n"):
        return None
    return text[:-1].split("\n")


def _behind(line, word):
    """What follows the first word of a line and a space; None if the line begins otherwise."""
    return line[len(word) + 1:] if line.startswith(word + " ") else None


def alphabet_of(line):
    """The alphabet in the first line of a text; None if the line is wrong."""
    alphabet = _behind(line, "alphabet")
    return alphabet if is_alphabet(alphabet) else None


def _numbers(least, most):
    """The numbers from the least one to the most, by the way in which they are written."""
    return {str(number): number for number in range(least, most + 1)}


def _number_of(lines, at, word, numbers):
    """The number behind the first word of the line with this index, which may be missing."""
    number = _behind(lines[at], word) if at < len(lines) else None
    if number not in numbers:
        raise InvalidText(at + 1)
    return numbers[number]


def _transition_of(line, alphabet, states):
    """The transition in a line; None if the line has not the form of one."""
    parts = line.split(" ")
    if len(parts) != 4 or parts[0] not in states or parts[2] not in states:
        return None
    if not is_letter(parts[1], alphabet) or parts[3] not in KINDS:
        return None
    return states[parts[0]], parts[1], states[parts[2]], parts[3]


def automaton_text(automaton):
    """The text of an automaton."""
    lines = [f"alphabet {automaton.alphabet}", f"states {automaton.size}", f"initial {automaton.initial}"]
    lines.extend([f"{source} {letter} {target} {kind}"
                  for source, letter, target, kind in automaton.transitions()])
    return "".join([line + "\n" for line in lines])


def read_automaton(text):
    """The automaton with a text."""
    lines = lines_of(text)
    if lines is None:
        raise InvalidText(0)
    alphabet = alphabet_of(lines[0])
    if alphabet is None:
        raise InvalidText(1)
    size = _number_of(lines, 1, "states", _numbers(1, Automaton.MOST))
    states = _numbers(0, size - 1)
    initial = _number_of(lines, 2, "initial", states)
    transitions = []
    for at in range(3, len(lines)):
        transition = _transition_of(lines[at], alphabet, states)
        if transition is None or (transitions and transition[:3] <= transitions[-1][:3]):
            raise InvalidText(at + 1)
        transitions.append(transition)
    try:
        return Automaton(alphabet, size, transitions, initial=initial)
    except Incomplete:
        raise InvalidText(len(lines) + 1) from None
