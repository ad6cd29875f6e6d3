"""lastslip/boards.py: the plans."""

import random
import unittest

from lastslip.automata import Automaton
from lastslip.boards import Board, Plan, plan, winner
from lastslip.least import least
from lastslip.trackers import determinize

from samples import some_automata, written
from test_boards import EITHER, FEW, random_board


def keeps(found, board, automaton, start):
    """Whether a plan is as the document says; the first thing that is wrong, or None."""
    rows, ranks = found.rows(), found.ranks()
    heights = {row[:2]: row[2] for row in ranks}
    if len(heights) < len(ranks) or (start, automaton.initial) not in heights:
        return "ranks"
    if min(heights.values()) < 0:
        return "below"
    wanted, table = [], {}
    for row in rows:
        table.setdefault(row[:2], []).append(row)
    for node, state in heights:
        own = board.owner(node) == found.player
        mine = table.get((node, state), [])
        moves = [(letter, late) for letter, late in board.moves_of(node)]
        if own and (len(mine) != 1 or mine[0][2:4] not in moves):
            return "no row"
        if found.player == 0 and not own and sorted(row[2:4] for row in mine) != sorted(moves):
            return "rows"
        if found.player == 1 and not own and mine:
            return "more rows"
        wanted += mine
        taken = [row[2:4] for row in mine] if found.player == 0 or own else moves
        for letter, late in taken:
            targets = automaton.moves(state, letter)
            if found.player == 0:
                target = [row[4] for row in mine if row[2:4] == (letter, late)][0]
                targets = [pair for pair in targets if pair[0] == target]
                if not targets:
                    return "no transition"
            for target, kind in targets:
                if (late, target) not in heights:
                    return "no rank"
                fall = heights[node, state] - heights[late, target]
                if found.player == 0 and fall < (1 if kind == "slip" else 0):
                    return "a slip"
                if found.player == 1 and kind == "safe" and fall < 1:
                    return "no slip"
    return None if sorted(wanted) == sorted(rows) else "other rows"


class PlanTest(unittest.TestCase):
    def check(self, board, automaton, start=0):
        found = plan(board, automaton, start)
        self.assertIs(type(found), Plan)
        self.assertEqual(found.player, winner(board, automaton, start))
        self.assertIsNone(keeps(found, board, automaton, start))
        self.assertEqual([found.rows(), found.ranks()], [sorted(found.rows()), sorted(found.ranks())])
        self.assertTrue(all(len(row) == (5 if found.player == 0 else 4) for row in found.rows()))
        self.assertEqual([len(found), repr(found)], [len(found.rows()), f"Plan({found.player}, {len(found.rows())} rows)"])
        return found.player

    def test_all_nodes_of_small_boards(self):
        chance = random.Random(140)
        players = []
        for automaton in [FEW, EITHER, *some_automata(141, 80, sizes=(1, 2, 3), more=6)]:
            board = random_board(chance, chance.randrange(1, 7), chance.randrange(8))
            players += [self.check(board, automaton, node) for node in range(len(board))]
            late = least(automaton)
            players += [self.check(board, late, node) for node in range(len(board))]
        self.assertGreater(min(players.count(0), players.count(1)), 100)

    def test_greater_boards(self):
        chance = random.Random(142)
        players = [self.check(random_board(chance, 60, 80), automaton, node)
                   for automaton in (FEW, EITHER, determinize(EITHER), *some_automata(143, 10, sizes=(3, 4)))
                   for node in (0, 7)]
        self.assertGreater(min(players.count(0), players.count(1)), 3)

    def test_more_than_a_thousand_ranks(self):
        many = 1500
        # Each node may be kept for ever, or left by a slip; the last one is left for the first one or kept.
        steps = [(node, "b", node + 1) for node in range(many - 1)]
        stays = [(node, "a", node) for node in range(many)]
        for owner in (0, 1):
            board = Board([owner] * many, steps + stays)
            self.assertEqual(self.check(board, FEW), 0)
            chain = Board([owner] * many, steps + [(many - 1, "a", many - 1)])
            self.assertEqual(self.check(chain, FEW), 0)
            self.assertGreater(max(row[2] for row in plan(chain, FEW).ranks()), 1000)
            # Behind so many safe letters comes a slip, and again.
            ring = Board([owner] * many, [(node, "a", (node + 1) % many) for node in range(many - 1)] +
                         [(many - 1, "b", 0)])
            self.assertEqual(self.check(ring, FEW, 5), 1)
            self.assertGreater(max(row[2] for row in plan(ring, FEW, 5).ranks()), 1000)
        # The player 1 may slip on so often that the player 0 has to be asked in the end.
        circle = Board([1] * (many - 1) + [0], steps + stays + [(many - 1, "b", 0)])
        self.assertEqual(self.check(circle, FEW), 0)
        circle = Board([1] * (many - 1) + [0], steps + stays[:-1] + [(many - 1, "b", 0)])
        self.assertEqual(self.check(circle, FEW), 1)

    def test_a_plan_by_itself(self):
        rows, ranks = [(0, 0, "a", 1)], [(0, 0, 3), (1, 0, 2)]
        found = Plan(1, rows, ranks)
        rows.append(None)
        ranks.clear()
        found.rows().append(5)
        found.ranks()[0] = 5
        self.assertEqual([found.player, found.rows(), found.ranks()], [1, [(0, 0, "a", 1)], [(0, 0, 3), (1, 0, 2)]])
        self.assertEqual([len(found), repr(found)], [1, "Plan(1, 1 rows)"])
        late = Plan(ranks=((0, 0, 0),), rows=(), player=0)
        self.assertEqual([late.player, late.rows(), late.ranks(), len(late), repr(late)],
                         [0, [], [(0, 0, 0)], 0, "Plan(0, 0 rows)"])

    def test_a_plan_without_rows(self):
        # The player 1 wins, but has no node.
        board = Board([0, 0], [(0, "b", 1), (1, "a", 0)])
        found = plan(automaton=FEW, board=board, start=1)
        self.assertEqual([found.player, found.rows(), len(found)], [1, [], 0])
        self.assertEqual(self.check(board, FEW, 1), 1)

    def test_guesses_of_the_player_0(self):
        # Behind the letter a the state has to be guessed before the player 1 moves.
        automaton = written("ab", 3, 0, "0a1! 0a2! 0b0! 1a1 1b1! 2a2! 2b2")
        for moves, player in (([(0, "a", 1), (1, "a", 1)], 0), ([(0, "a", 1), (1, "a", 1), (1, "b", 1)], 1),
                              ([(0, "a", 1), (1, "b", 1)], 0)):
            self.assertEqual(self.check(Board([0, 1], moves), automaton), player)
        two = Board([1, 1, 1, 1], [(0, "a", 1), (1, "a", 2), (1, "b", 3), (2, "a", 2), (3, "b", 3)])
        self.assertEqual([self.check(two, automaton), self.check(two, determinize(automaton))], [1, 0])
        late = Automaton("abc", 1, [(0, letter, 0, "safe") for letter in "abc"])
        self.assertEqual(self.check(two, late), 0)


if __name__ == "__main__":
    unittest.main()
