"""Boards on which one player wants an accepted word, and who wins on them."""

from lastslip.errors import DeadEnd, InvalidMoves, InvalidNode, InvalidOwners, WrongPaper
from lastslip.games import outcome
from lastslip.graphs import explored
from lastslip.papers import Harmful
from lastslip.trackers import beside
from lastslip.values import copied, is_list
from lastslip.words import check_letters, is_number, is_word


def _check_owners(owners):
    """Raises InvalidOwners unless any value is a list of players."""
    if not is_list(owners) or not is_number(len(owners), 1, Board.MOST):
        raise InvalidOwners(-1)
    for at, owner in enumerate(owners):
        if not is_number(owner, 0, 1):
            raise InvalidOwners(at)


def _is_move(value, size):
    """Whether any value is a tuple (node, letter, node)."""
    return (isinstance(value, tuple) and len(value) == 3 and is_number(value[0], 0, size - 1)
            and is_word(value[1], 1) and value[1] != "" and is_number(value[2], 0, size - 1))


def _check_moves(moves, size):
    """Raises InvalidMoves unless any value is a list of different moves between so many nodes."""
    if not is_list(moves):
        raise InvalidMoves(-1)
    seen = {}
    for at, value in enumerate(moves):
        if not _is_move(value, size) or value in seen:
            raise InvalidMoves(at)
        seen[value] = True


class Board:
    """Nodes of two players, and the moves between them."""

    MOST = 20000

    def __init__(self, owners, moves):
        _check_owners(owners)
        _check_moves(moves, len(owners))
        rows = [[] for _ in owners]
        for node, letter, target in sorted(moves):
            rows[node].append((letter, target))
        for node, row in enumerate(rows):
            if not row:
                raise DeadEnd(node)
        self._owners = list(owners)
        self._rows = rows

    def check_node(self, value):
        """Raises InvalidNode unless any value is a node."""
        if not is_number(value, 0, len(self._owners) - 1):
            raise InvalidNode(value)

    def owner(self, node):
        """The player to whom the node belongs."""
        self.check_node(node)
        return self._owners[node]

    def moves_of(self, node):
        """The ascending list of the pairs (letter, node) of the moves from a node."""
        self.check_node(node)
        return list(self._rows[node])

    def letters(self):
        """The ascending string of the letters of all moves."""
        return "".join(sorted({letter for row in self._rows for letter, _ in row}))

    def __len__(self):
        return len(self._owners)

    def __eq__(self, other):
        return isinstance(other, Board) and self._owners == other._owners and self._rows == other._rows

    def __repr__(self):
        return f"Board({len(self._owners)} nodes)"


class Plan:
    """How a player wins from a node: rows of moves, and ranks that fall."""

    def __init__(self, player, rows, ranks):
        self.player = player
        self._rows = copied(list(rows))
        self._ranks = copied(list(ranks))

    def rows(self):
        """The list of the rows."""
        return copied(self._rows)

    def ranks(self):
        """The list of the ranks."""
        return copied(self._ranks)

    def __len__(self):
        return len(self._rows)

    def __repr__(self):
        return f"Plan({self.player}, {len(self._rows)} rows)"


def _solved(board, automaton, start):
    """Whether the player 0 wins from a node, and the rows that prove it."""
    board.check_node(start)
    check_letters(board.letters(), automaton.alphabet)

    def steps(position):
        node, state = position
        return [((letter, late), (late, target), kind == "safe", False)
                for letter, late in board.moves_of(node) for target, kind in automaton.moves(state, letter)]

    def is_free(position):
        return board.owner(position[0]) == 0

    return outcome((start, automaton.initial), steps, is_free)


def winner(board, automaton, start=0):
    """The player who wins from a node."""
    won, _ = _solved(board, automaton, start)
    return 0 if won else 1


def plan(board, automaton, start=0):
    """A plan of the player who wins from a node."""
    won, proof = _solved(board, automaton, start)
    if won:
        rows = [(*position, move[0], *late) for position, _, _, arrows in proof for move, late in arrows]
        ranks = [(*position, rank) for position, rank, _, _ in proof]
        return Plan(0, sorted(rows), sorted(ranks))
    rows = [(*position, *arrows[0][0]) for position, _, _, arrows in proof if board.owner(position[0]) == 1]
    ranks = [(*position, many) for position, _, many, _ in proof]
    return Plan(1, sorted(rows), sorted(ranks))


def _choices(automaton, paper):
    """For each position of a Harmful its letter, the tracked state behind it and the greatest rank there."""
    ranks = {row[:2]: row[2] for row in paper.ranks()}
    letters = {row[:2]: row[2] for row in paper.letters()}
    choices = {}
    for position in ranks:
        lates = [late for letter, late, _, _ in beside(automaton, paper.tracker, position)
                 if letter == letters[position]]
        choices[position] = (letters[position], lates[0][1], max([ranks[late] for late in lates]))
    return ranks, choices


def harm_board(automaton, paper):
    """A board and a node from which the player 1 wins, but with the tracker of the paper the player 0."""
    if not isinstance(paper, Harmful) or not paper.holds(automaton):
        raise WrongPaper()
    ranks, choices = _choices(automaton, paper)

    # A node is a tracked state and a rank, which bounds how often the tracker slips from there. The
    # player 1 takes the letter of the state that the other player has, and a rank for all its targets.
    def steps(place):
        tracked, rank = place
        found = {choices[position]: True for position in choices
                 if position[1] == tracked and ranks[position] <= rank}
        return [(letter, (late, bound), True, True) for letter, late, bound in found]

    first = (automaton.initial, paper.tracker.initial)
    places, graph = explored((first[1], ranks[first]), steps)
    moves = [(node, letter, target) for node, arrows in enumerate(graph) for letter, target, _, _ in arrows]
    return Board([1] * len(places), moves), 0
