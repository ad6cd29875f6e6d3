"""Certificates that the guesses of an automaton are harmless, or harmful, and how they are found."""

from lastslip.automata import Automaton
from lastslip.errors import WrongPaper
from lastslip.games import outcome
from lastslip.graphs import travelled
from lastslip.relations import within
from lastslip.trackers import beside, determinize
from lastslip.values import copied, equal_values, is_list
from lastslip.words import FARTHEST, is_letter, is_number


def _rows_of(value):
    """The list of the rows; None if the value is no list of tuples."""
    if not is_list(value) or not all([isinstance(row, tuple) for row in value]):
        return None
    return copied(list(value))


def _are_rows(rows, size, is_end):
    """Whether all rows begin with a position, and have an end that is as said."""
    return all([len(row) > 2 and is_number(row[0], 0, size[0] - 1) and is_number(row[1], 0, size[1] - 1)
                and is_end(row[2:]) for row in rows])


def _by_start(rows, many):
    """The dict of the ends of the rows by their starts; None if two rows have the same start."""
    table = {row[:many]: row[many:] for row in rows}
    return table if len(table) == len(rows) else None


class Harmless:
    """The moves of a hand, and ranks, which show that the guesses of an automaton are harmless."""

    def __init__(self, tracker, moves, ranks):
        self.tracker = copied(tracker)
        self._moves = _rows_of(moves)
        self._ranks = _rows_of(ranks)

    def moves(self):
        """The list of the moves; None if the value was no list of tuples."""
        return copied(self._moves)

    def ranks(self):
        """The list of the ranks; None if the value was no list of tuples."""
        return copied(self._ranks)

    def told(self):
        """What the certificate says of the guesses."""
        return "harmless"

    def holds(self, automaton):
        """Whether it shows that the guesses of the automaton are harmless."""
        if not _is_tracker(self.tracker, automaton) or self._moves is None or self._ranks is None:
            return False
        size = (automaton.size, self.tracker.size)

        def is_move(end):
            return len(end) == 2 and is_letter(end[0], automaton.alphabet) and is_number(end[1], 0, size[0] - 1)

        def is_rank(end):
            return len(end) == 1 and is_number(end[0], 0, FARTHEST)

        if not _are_rows(self._moves, size, is_move) or not _are_rows(self._ranks, size, is_rank):
            return False
        moves = _by_start(self._moves, 3)
        ranks = _by_start(self._ranks, 2)
        if moves is None or ranks is None or (automaton.initial, self.tracker.initial) not in ranks:
            return False
        return (all([self._is_kept(automaton, moves, ranks, position, letter)
                     for position in ranks for letter in automaton.alphabet])
                and within(automaton, self.tracker))

    def _is_kept(self, automaton, moves, ranks, position, letter):
        """Whether there is a move by a letter that keeps to the transitions and to the ranks."""
        start = (*position, letter)
        if start not in moves:
            return False
        target = moves[start][0]
        arrows = [arrow for arrow in beside(automaton, self.tracker, position)
                  if arrow[0] == letter and arrow[1][0] == target]
        if not arrows or arrows[0][1] not in ranks:
            return False
        _, late, safe, reset = arrows[0]
        return reset or ranks[late] < ranks[position] or (safe and ranks[late] == ranks[position])

    def __eq__(self, other):
        return (isinstance(other, Harmless) and equal_values(self.tracker, other.tracker)
                and equal_values(self._moves, other._moves) and equal_values(self._ranks, other._ranks))

    def __repr__(self):
        return f"harmless with {len(self._moves or [])} rows"


class Harmful:
    """The letters of an opponent, and ranks, which show that the guesses of an automaton are harmful."""

    def __init__(self, tracker, letters, ranks):
        self.tracker = copied(tracker)
        self._letters = _rows_of(letters)
        self._ranks = _rows_of(ranks)

    def letters(self):
        """The list of the letters; None if the value was no list of tuples."""
        return copied(self._letters)

    def ranks(self):
        """The list of the ranks; None if the value was no list of tuples."""
        return copied(self._ranks)

    def told(self):
        """What the certificate says of the guesses."""
        return "harmful"

    def holds(self, automaton):
        """Whether it shows that the guesses of the automaton are harmful."""
        if not _is_tracker(self.tracker, automaton) or self._letters is None or self._ranks is None:
            return False
        size = (automaton.size, self.tracker.size)

        def is_choice(end):
            return len(end) == 1 and is_letter(end[0], automaton.alphabet)

        def is_rank(end):
            return len(end) == 2 and all([is_number(number, 0, FARTHEST) for number in end])

        if not _are_rows(self._letters, size, is_choice) or not _are_rows(self._ranks, size, is_rank):
            return False
        letters = _by_start(self._letters, 2)
        ranks = _by_start(self._ranks, 2)
        if letters is None or ranks is None or (automaton.initial, self.tracker.initial) not in ranks:
            return False
        return (all([self._is_kept(automaton, letters, ranks, position) for position in ranks])
                and within(self.tracker, automaton))

    def _is_kept(self, automaton, letters, ranks, position):
        """Whether there is a letter behind which all transitions keep to the ranks and steps."""
        if position not in letters:
            return False
        rank, steps = ranks[position]
        for letter, late, safe, reset in beside(automaton, self.tracker, position):
            if letter == letters[position][0]:
                if late not in ranks or ranks[late][0] > rank:
                    return False
                if ranks[late][0] == rank and (reset or (safe and ranks[late][1] >= steps)):
                    return False
        return True

    def __eq__(self, other):
        return (isinstance(other, Harmful) and equal_values(self.tracker, other.tracker)
                and equal_values(self._letters, other._letters) and equal_values(self._ranks, other._ranks))

    def __repr__(self):
        return f"harmful with {len(self._letters or [])} rows"


def _is_tracker(value, automaton):
    """Whether any value is a deterministic automaton with the alphabet of the automaton."""
    return isinstance(value, Automaton) and value.is_deterministic and value.alphabet == automaton.alphabet


def harmless(automaton):
    """A certificate that holds for the automaton: a Harmless or a Harmful."""
    tracker = determinize(automaton)

    def steps(position):
        return beside(automaton, tracker, position)

    def is_free(position):
        return False

    won, rows = outcome((automaton.initial, tracker.initial), steps, is_free)
    if won:
        moves = [(*position, letter, late[0]) for position, _, _, arrows in rows for letter, late in arrows]
        return Harmless(tracker, sorted(moves), sorted([(*position, rank) for position, rank, _, _ in rows]))
    letters = [(*position, arrows[0][0]) for position, _, _, arrows in rows]
    ranks = [(*position, rank, many) for position, rank, many, _ in rows]
    return Harmful(tracker, sorted(letters), sorted(ranks))


def visited(automaton, paper):
    """The rows (position, letter, next position) of what the moves of a Harmless that holds reach."""
    moves = _by_start(paper.moves(), 3)

    def step(position, letter):
        state, tracked = position
        return moves[state, tracked, letter][0], paper.tracker.targets(tracked, letter)[0]

    return travelled((automaton.initial, paper.tracker.initial), automaton.alphabet, step)


def check_paper(automaton, paper):
    """Raises WrongPaper unless any value is a Harmless that holds for the automaton."""
    if not isinstance(paper, Harmless) or not paper.holds(automaton):
        raise WrongPaper()


def used(automaton, paper):
    """The ascending list of the transitions that the hand of a Harmless uses."""
    check_paper(automaton, paper)
    taken = {(position[0], letter, late[0]): True for position, letter, late in visited(automaton, paper)}
    return [transition for transition in automaton.transitions() if transition[:3] in taken]
