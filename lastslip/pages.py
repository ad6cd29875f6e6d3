"""Libraries written as pages, and automata shown as tables."""

from lastslip.errors import InvalidPage, Missing, SlipError
from lastslip.library import Library
from lastslip.texts import alphabet_of, lines_of


def library_page(library):
    """The page of a library."""
    lines = [f"{name} = {library[name]}\n" for name in library.names()]
    return f"alphabet {library.alphabet}\n" + "".join(lines)


def _is_put(library, line):
    """Whether the wish in a line can be put into the library, and is written as the library tells it."""
    name, _, text = line.partition(" = ")
    try:
        library.put(name, text)
    except (SlipError, Missing):
        return False
    return library[name] == text


def read_page(text):
    """The library with a page."""
    lines = lines_of(text)
    if lines is None:
        raise InvalidPage(0)
    alphabet = alphabet_of(lines[0])
    if alphabet is None:
        raise InvalidPage(1)
    library = Library(alphabet, limit=Library.MOST)
    for at in range(1, len(lines)):
        if not _is_put(library, lines[at]):
            raise InvalidPage(at + 1)
    library.forget_steps()
    return library


def _field(automaton, state, letter):
    """The targets of a state by a letter, each with a mark if it is the target of a slip."""
    moves = automaton.moves(state, letter)
    return " ".join([f"{target}!" if kind == "slip" else str(target) for target, kind in moves])


def table_of(automaton):
    """A line for each state, with a field for each letter."""
    lines = []
    for state in range(automaton.size):
        mark = ">" if state == automaton.initial else " "
        fields = [f"{letter} {_field(automaton, state, letter):<12}" for letter in automaton.alphabet]
        lines.append(f"{mark}{state:>2}: " + "| ".join(fields))
    return lines
