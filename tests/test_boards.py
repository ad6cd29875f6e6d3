"""lastslip/boards.py: the boards, and who wins on them."""

import random
import unittest
from itertools import product

from lastslip.automata import Automaton
from lastslip.boards import Board, harm_board, plan, winner
from lastslip.errors import DeadEnd, InvalidMoves, InvalidNode, InvalidOwners, StrangeLetter, TooMany, WrongPaper
from lastslip.least import least
from lastslip.papers import Harmful, Harmless, harmless
from lastslip.relations import same_words
from lastslip.trackers import determinize

from samples import GREAT, NOTHINGS, NUMBERS, WRONG_STRINGS, in_a_row, raised, some_automata, written

ALL = Automaton.deterministic("ab", [[(0, "safe"), (0, "safe")]])
NONE = Automaton.deterministic("ab", [[(0, "slip"), (0, "slip")]])
FEW = Automaton.deterministic("ab", [[(0, "safe"), (0, "slip")]])
EITHER = written("ab", 3, 0, "0a1 0b1! 0a2! 0b2 1a1 1b1! 2a2! 2b2")
SMALL = [(0, "a", 1), (1, "b", 0), (1, "a", 1)]


def random_board(chance, size, more, letters="ab"):
    """A board with at least one move from each node, and about so many more moves."""
    moves = {(node, chance.choice(letters), chance.randrange(size)): None for node in range(size)}
    for _ in range(more):
        moves[chance.randrange(size), chance.choice(letters), chance.randrange(size)] = None
    return Board([chance.randrange(2) for _ in range(size)], list(moves))


def really_won(board, automaton):
    """The positions (node, state) from which the player 0 wins, by sets that shrink and grow."""
    places = list(product(range(len(board)), range(automaton.size)))

    def good(place, grown, calm):
        node, state = place
        answers = [any((late, target) in (calm if kind == "safe" else grown)
                       for target, kind in automaton.moves(state, letter)) for letter, late in board.moves_of(node)]
        return any(answers) if board.owner(node) == 0 else all(answers)

    grown = set()
    while True:
        calm = set(places)
        while True:
            fewer = {place for place in calm if good(place, grown, calm)}
            if fewer == calm:
                break
            calm = fewer
        if calm == grown:
            return calm
        grown = calm


class BoardTest(unittest.TestCase):
    def test_what_is_kept(self):
        chance = random.Random(130)
        for _ in range(40):
            size = chance.randrange(1, 6)
            owners = [chance.randrange(2) for _ in range(size)]
            moves = {(node, chance.choice("abkz"), chance.randrange(size)): None
                     for node in list(range(size)) + [chance.randrange(size) for _ in range(6)]}
            moves = list(moves)
            chance.shuffle(moves)
            board = Board(tuple(owners), moves)
            self.assertEqual([board.owner(node) for node in range(size)], owners)
            for node in range(size):
                self.assertEqual(board.moves_of(node), sorted(row[1:] for row in moves if row[0] == node))
            self.assertEqual(board.letters(), "".join(sorted({row[1] for row in moves})))
            self.assertEqual([len(board), repr(board)], [size, f"Board({size} nodes)"])
            self.assertEqual(board, Board(owners, tuple(moves[::-1])))
            self.assertEqual(board, Board(moves=moves, owners=owners))
        self.assertEqual(Board.MOST, 20000)
        self.assertEqual([board.owner(node=0), board.moves_of(node=0)], [board.owner(0), board.moves_of(0)])

    def test_lists_are_copied_and_new(self):
        owners, moves = [0, 1], list(SMALL)
        board = Board(owners, moves)
        owners[0] = 1
        owners.append(7)
        moves.clear()
        board.moves_of(1).append(5)
        self.assertEqual([board.owner(0), len(board), board.moves_of(1), board.letters()],
                         [0, 2, [("a", 1), ("b", 0)], "ab"])
        self.assertEqual(board, Board([0, 1], SMALL))

    def test_equality(self):
        board = Board([0, 1], SMALL)
        for other in (Board([1, 1], SMALL), Board([0, 0], SMALL), Board([0, 1], SMALL[:2]),
                      Board([0, 1], SMALL + [(0, "b", 1)]), Board([0, 1], [(0, "b", 1)] + SMALL[1:]),
                      Board([0, 1], [(0, "a", 0)] + SMALL[1:]), Board([0, 1, 0], SMALL + [(2, "a", 0)]),
                      None, 0, SMALL, ([0, 1], SMALL), "Board(2 nodes)"):
            self.assertIs(board == other, False)
            self.assertIs(board != other, True)
        self.assertIs(board == Board((0, 1), SMALL), True)

    def test_owners(self):
        for value in (None, True, 5, "01", "", [], (), [0] * 20001):
            raised(self, InvalidOwners, {"at": -1}, Board, value, SMALL)
            raised(self, InvalidOwners, {"at": -1}, Board, moves=None, owners=value)
        for wrong in (None, True, False, -1, 2, 10 ** 29, "0", "", (), [0]):
            for at in (0, 1, 2):
                owners = [0, 1, 1, 2]
                owners[at] = wrong
                raised(self, InvalidOwners, {"at": at}, Board, owners, None)
        self.assertEqual(len(Board([1], [(0, "z", 0)])), 1)

    def test_many_nodes(self):
        moves = [(node, "a", (node + 1) % 20000) for node in range(20000)]
        board = Board([0] * 20000, moves)
        self.assertEqual([len(board), board.moves_of(19999), repr(board)], [20000, [("a", 0)], "Board(20000 nodes)"])
        raised(self, InvalidOwners, {"at": -1}, Board, [0] * 20001, moves + [(20000, "a", 0)])
        raised(self, DeadEnd, {"node": 19998}, Board, [0] * 20000, moves[:-2])
        self.assertEqual([winner(board, FEW), winner(board, NONE, 7), len(plan(board, FEW))], [0, 1, 20000])

    def test_moves(self):
        for value in [None, True, False, 0, 5, "", "a", "0a1"]:
            raised(self, InvalidMoves, {"at": -1}, Board, [0, 1], value)
        wrongs = [*NOTHINGS, *NUMBERS, *WRONG_STRINGS, (0, "a"), (0, "a", 1, 0), [0, "a", 1], (2, "a", 1), (0, "a", 2),
                  (-1, "a", 1), (0, "a", -1), (True, "a", 1), (0, "a", True), (False, "a", 0), (0, "", 1), (0, "ab", 1),
                  (0, "A", 1), (0, 1, 1), (0, None, 1), ("0", "a", 1), (0, ["a"], 1), (0, "a", [1]), (0, " ", 1),
                  ([0], "a", 1), (10 ** 29, "a", 0), SMALL[0]]
        for wrong in wrongs:
            for at in (1, 2, 3):
                moves = SMALL[:at] + [wrong] + SMALL[at:] + [()]
                raised(self, InvalidMoves, {"at": at}, Board, [0, 1], moves)
        raised(self, InvalidMoves, {"at": 0}, Board, [0, 1], [[0, "a", 1]] + SMALL)
        raised(self, InvalidMoves, {"at": 3}, Board, [0, 1], SMALL + SMALL)
        self.assertEqual(Board([0, 1], SMALL + [(0, "b", 1), (0, "a", 0)]).moves_of(0), [("a", 0), ("a", 1), ("b", 1)])

    def test_dead_ends(self):
        raised(self, DeadEnd, {"node": 0}, Board, [0, 1, 0], [])
        raised(self, DeadEnd, {"node": 0}, Board, [0], ())
        raised(self, DeadEnd, {"node": 0}, Board, [0, 1, 0], [(1, "a", 0), (2, "b", 1)])
        raised(self, DeadEnd, {"node": 1}, Board, [0, 1, 0, 0], [(0, "a", 3), (2, "b", 1)])
        raised(self, DeadEnd, {"node": 2}, Board, [0, 1, 0], SMALL)

    def test_the_order_of_errors(self):
        raised(self, InvalidOwners, {"at": 1}, Board, [0, 5], [(0, "a", 9)])
        raised(self, InvalidMoves, {"at": 1}, Board, [0, 1], [(0, "a", 1), (0, "a", 2)])

    def test_nodes(self):
        board = Board([0, 1], SMALL)
        for value in [*NOTHINGS, -1, 2, 10 ** 29, "0", ""]:
            for call in (board.owner, board.moves_of):
                raised(self, InvalidNode, {"given": value}, call, value)
                raised(self, InvalidNode, {"given": value}, call, node=value)
            for call in (winner, plan):
                raised(self, InvalidNode, {"given": value}, call, board, FEW, value)
                raised(self, InvalidNode, {"given": value}, call, board, Automaton("c", 1, [(0, "c", 0, "safe")]), value)
                raised(self, InvalidNode, {"given": value}, call, start=value, automaton=FEW, board=board)


class WinnerTest(unittest.TestCase):
    def check(self, board, automaton):
        won = really_won(board, automaton)
        found = [winner(board, automaton, node) for node in range(len(board))]
        self.assertEqual(found, [0 if (node, automaton.initial) in won else 1 for node in range(len(board))])
        self.assertEqual(winner(board, automaton), found[0])
        return found

    def test_all_nodes(self):
        chance = random.Random(131)
        found = []
        for automaton in [FEW, EITHER, *some_automata(132, 60, sizes=(1, 2, 3), more=5)]:
            found += self.check(random_board(chance, chance.randrange(1, 7), chance.randrange(8)), automaton)
        self.assertGreater(min(found.count(0), found.count(1)), 60)

    def test_known_ones(self):
        loops = [(0, "a", 0), (0, "b", 0)]
        self.assertEqual([winner(Board([player], loops), automaton) for player in (0, 1)
                          for automaton in (ALL, NONE, FEW, EITHER, determinize(EITHER))],
                         [0, 1, 0, 0, 0, 0, 1, 1, 1, 1])
        # The player 1 chooses once, and then it goes on for ever: the guess comes too early with EITHER.
        moves = [(0, "a", 1), (0, "a", 2), (1, "a", 1), (2, "b", 2)]
        self.assertEqual([winner(Board([1, 0, 0], moves), automaton, start=0)
                          for automaton in (EITHER, least(EITHER), determinize(EITHER))], [0, 0, 0])
        moves = [(0, "a", 3), (3, "a", 1), (3, "a", 2), (1, "a", 1), (2, "b", 2)]
        self.assertEqual([winner(board=Board([1, 0, 0, 1], moves), automaton=automaton)
                          for automaton in (EITHER, least(EITHER), determinize(EITHER))], [1, 0, 0])

    def test_harmless_guesses_do_not_change_the_winner(self):
        chance = random.Random(133)
        several = 0
        for automaton in [EITHER, *some_automata(134, 40, sizes=(2, 3), more=6)]:
            late = [least(automaton), determinize(automaton)]
            if type(harmless(automaton)) is Harmless:
                late.append(automaton)
            for _ in range(3):
                board = random_board(chance, 6, 8)
                found = [[winner(board, one, node) for node in range(6)] for one in late]
                self.assertEqual(found, [found[0]] * len(found))
                several += len(set(found[0])) > 1
        self.assertGreater(several, 20)

    def test_strange_letters(self):
        board = Board([0, 1], [(0, "z", 1), (1, "c", 0), (1, "b", 1), (0, "y", 0)])
        for alphabet, letter in (("a", "b"), ("bc", "y"), ("bcy", "z"), ("cyz", "b"), ("byz", "c")):
            automaton = Automaton.deterministic(alphabet, [[(0, "safe")] * len(alphabet)])
            for call in (winner, plan):
                raised(self, StrangeLetter, {"given": letter}, call, board, automaton)
                raised(self, StrangeLetter, {"given": letter}, call, board, automaton, 1)
        self.assertEqual(winner(Board([0], [(0, "b", 0)]), FEW), 1)


class HarmBoardTest(unittest.TestCase):
    def check(self, automaton, paper):
        board, node = harm_board(automaton, paper)
        self.assertIs(type(board), Board)
        self.assertEqual([winner(board, automaton, node), winner(board, paper.tracker, node)], [1, 0])
        if type(harmless(least(automaton))) is Harmless:
            self.assertEqual(winner(board, least(automaton), node), 0)

    def test_boards_of_harmful_guesses(self):
        harmful = 0
        for automaton in [EITHER, in_a_row(4, EITHER), *some_automata(135, 90, sizes=(2, 3, 4), more=8)]:
            paper = harmless(automaton)
            if type(paper) is Harmful:
                self.check(automaton, paper)
                moved = [(*row[:2], row[2] + 10 ** 17, row[3] + 5) for row in paper.ranks()]
                self.check(automaton, Harmful(paper.tracker, paper.letters(), moved))
                twice = [(*row[:2], 2 * row[2] + 1, 3 * row[3]) for row in paper.ranks()]
                self.check(automaton, Harmful(paper.tracker, paper.letters(), twice))
                harmful += 1
        self.assertGreater(harmful, 10)

    def test_ranks_that_have_to_fall(self):
        # The tracker slips with each of the first letters, before the opponent can win.
        for many in (1, 3, 20):
            rows = [(at, letter, at + 1, "slip") for at in range(many) for letter in "ab"]
            rows += [(source + many, letter, target + many, kind) for source, letter, target, kind in EITHER.transitions()]
            automaton = Automaton("ab", many + 3, rows)
            paper = harmless(automaton)
            self.assertGreater(max(row[2] for row in paper.ranks()), many - 1)
            self.check(automaton, paper)
            rank = dict((row[:2], row[2]) for row in paper.ranks())
            spread = [(*row[:2], row[2] * 10 ** 16 + 10 ** 15, row[3]) for row in paper.ranks()]
            self.assertEqual(len(rank), len(spread))
            self.check(automaton, Harmful(paper.tracker, paper.letters(), spread))

    def test_known_boards(self):
        board, node = harm_board(automaton=EITHER, paper=harmless(EITHER))
        self.assertEqual(harm_board(EITHER, harmless(EITHER)), (board, node))
        self.assertIs(same_words(EITHER, harmless(EITHER).tracker), True)

    def test_wrong_papers(self):
        good = harmless(EITHER)
        for value in [*NOTHINGS, *NUMBERS, *WRONG_STRINGS, harmless(FEW), Harmless(good.tracker, [], []), EITHER,
                      Harmful(good.tracker, good.letters()[1:], good.ranks()), Harmful(None, [], []),
                      Harmful(good.tracker, good.letters(), [(*row, 0) for row in good.ranks()])]:
            raised(self, WrongPaper, {}, harm_board, EITHER, value)
            raised(self, WrongPaper, {}, harm_board, paper=value, automaton=EITHER)
        raised(self, WrongPaper, {}, harm_board, FEW, harmless(FEW))
        raised(self, WrongPaper, {}, harm_board, least(EITHER), good)

    def test_too_many(self):
        letters, ranks = [(0, 0, "a"), (1, 0, "b")], [(0, 0, 0, 0), (1, 0, 0, 0)]
        for many, great in GREAT:
            rows = [(source + 2, letter, target + 2, kind) for source, letter, target, kind in great.transitions()]
            rows += [(0, "a", 1, "slip"), (0, "b", great.initial + 2, "safe"), (1, "a", 1, "slip"), (1, "b", 1, "slip")]
            automaton = Automaton("ab", great.size + 2, rows)
            if many + 2 > 65:
                raised(self, TooMany, {"most": 65}, harm_board, automaton, Harmful(ALL, letters, ranks))
            else:
                raised(self, WrongPaper, {}, harm_board, automaton, Harmful(ALL, letters, ranks))
            raised(self, WrongPaper, {}, harm_board, automaton, Harmful(NONE, letters, ranks))


if __name__ == "__main__":
    unittest.main()
