"""What the class Automaton of lastslip/automata.py tells, and the automata that it makes."""

import random
import unittest

from lastslip.automata import Automaton
from lastslip.errors import InvalidOrder, InvalidState, StrangeLetter

from samples import NOTHINGS, NUMBERS, WRONG_STRINGS, in_a_row, raised, some_automata

ROWS = [(0, "a", 1, "safe"), (0, "b", 0, "slip"), (1, "a", 0, "slip"), (1, "a", 1, "safe"), (1, "b", 2, "safe"),
        (2, "b", 2, "slip"), (2, "a", 2, "safe")]
SAMPLES = some_automata(1, 60, ("a", "bc", "abz"), (1, 2, 3, 5, 8), 12)


def sample(**named):
    return Automaton("ab", 3, ROWS, **named)


class ToldTest(unittest.TestCase):
    def test_attributes(self):
        automaton = sample(initial=1)
        self.assertEqual([automaton.alphabet, automaton.size, automaton.initial, len(automaton)], ["ab", 3, 1, 3])
        self.assertEqual(sample().initial, 0)
        self.assertEqual([Automaton.MOST, automaton.MOST], [65, 65])
        named = Automaton(alphabet="ab", size=3, transitions=tuple(ROWS), initial=1)
        self.assertEqual(named, automaton)
        self.assertRaises(TypeError, Automaton, "ab", 3, ROWS, 1)

    def test_transitions_and_moves(self):
        automaton = sample()
        self.assertEqual(automaton.transitions(), sorted(ROWS))
        self.assertEqual(automaton.moves(1, "a"), [(0, "slip"), (1, "safe")])
        self.assertEqual(automaton.moves(state=0, letter="b"), [(0, "slip")])
        self.assertEqual(automaton.targets(1, "a"), [0, 1])
        self.assertEqual(automaton.targets(1, "a", None), [0, 1])
        self.assertEqual(automaton.targets(1, "a", "safe"), [1])
        self.assertEqual(automaton.targets(state=1, letter="a", word="slip"), [0])
        self.assertEqual(automaton.targets(0, "b", "safe"), [])

    def test_they_are_ascending(self):
        chance = random.Random(4)
        for automaton in SAMPLES:
            rows = automaton.transitions()
            self.assertEqual(rows, sorted(rows))
            mixed = list(rows)
            chance.shuffle(mixed)
            self.assertEqual(Automaton(automaton.alphabet, automaton.size, mixed).transitions(), rows)
            for state in range(automaton.size):
                for letter in automaton.alphabet:
                    pairs = [(target, kind) for source, sign, target, kind in rows if (source, sign) == (state, letter)]
                    self.assertEqual(automaton.moves(state, letter), pairs)
                    self.assertEqual(automaton.targets(state, letter), [target for target, _ in pairs])
                    for word in ("safe", "slip"):
                        self.assertEqual(automaton.targets(state, letter, word),
                                         [target for target, kind in pairs if kind == word])

    def test_one_target_by_safe_and_by_slip_is_one_too_many(self):
        automaton = Automaton("a", 2, [(0, "a", 1, "slip"), (0, "a", 0, "safe"), (1, "a", 1, "slip")])
        self.assertEqual(automaton.moves(0, "a"), [(0, "safe"), (1, "slip")])

    def test_wrong_states_and_letters(self):
        automaton = sample()
        for call in (automaton.moves, automaton.targets):
            for state in [*NOTHINGS, *WRONG_STRINGS, -1, 3, 10 ** 29, (0,)]:
                raised(self, InvalidState, {"given": state}, call, state, "a")
                raised(self, InvalidState, {"given": state}, call, state, "c")
            for letter in [*NOTHINGS, *NUMBERS, *WRONG_STRINGS, "", "c", "ab", "ba", "aa", "A", ("a", "b")]:
                raised(self, StrangeLetter, {"given": letter}, call, 0, letter)

    def test_is_deterministic(self):
        self.assertIs(sample().is_deterministic, False)
        self.assertIs(Automaton("ab", 3, ROWS[:2] + ROWS[3:]).is_deterministic, True)
        self.assertIs(Automaton("a", 1, [(0, "a", 0, "slip")]).is_deterministic, True)
        for automaton in SAMPLES:
            self.assertIs(automaton.is_deterministic,
                          len(automaton.transitions()) == automaton.size * len(automaton.alphabet))

    def test_repr(self):
        self.assertEqual(repr(sample()), "Automaton(3 states, 7 transitions)")
        self.assertEqual(repr(Automaton("a", 1, [(0, "a", 0, "slip")])), "Automaton(1 states, 1 transitions)")


class UnchangedTest(unittest.TestCase):
    def test_the_list_that_was_passed(self):
        rows = list(ROWS)
        automaton = Automaton("ab", 3, rows)
        self.assertEqual(rows, ROWS)
        rows[0] = (0, "a", 2, "slip")
        rows.append((0, "b", 1, "slip"))
        self.assertEqual(automaton.transitions(), sorted(ROWS))

    def test_the_rows_that_were_passed(self):
        rows = [[(0, "safe"), (1, "slip")], [(1, "slip"), (0, "safe")]]
        automaton = Automaton.deterministic("ab", rows)
        before = automaton.transitions()
        rows[0][0] = (1, "slip")
        rows.pop()
        self.assertEqual(automaton.transitions(), before)

    def test_the_lists_that_were_returned(self):
        automaton = sample()
        automaton.transitions().clear()
        automaton.moves(1, "a").append((2, "safe"))
        automaton.targets(1, "a").pop()
        automaton.reachable().clear()
        self.assertEqual(automaton, sample())
        self.assertEqual([automaton.moves(1, "a"), automaton.targets(1, "a")], [[(0, "slip"), (1, "safe")], [0, 1]])
        self.assertEqual(automaton.reachable(), [0, 1, 2])

    def test_an_order_that_was_passed(self):
        order = [2, 0, 1]
        automaton = sample()
        late = automaton.renumbered(order)
        order.reverse()
        self.assertEqual([late, automaton], [sample().renumbered([2, 0, 1]), sample()])


class ReachedTest(unittest.TestCase):
    def test_reachable(self):
        for automaton in SAMPLES:
            for state in range(automaton.size):
                reached = {state}
                for _ in range(automaton.size):
                    reached |= {target for source, _, target, _ in automaton.transitions() if source in reached}
                self.assertEqual(automaton.begun_at(state).reachable(), sorted(reached))

    def test_begun_at(self):
        for automaton in SAMPLES:
            before = automaton.initial
            for state in range(automaton.size):
                late = automaton.begun_at(state)
                self.assertEqual(late, Automaton(automaton.alphabet, automaton.size, automaton.transitions(),
                                                 initial=state))
                self.assertEqual([late.initial, automaton.initial], [state, before])
        for state in [*NOTHINGS, *WRONG_STRINGS, "", "0", -1, 3, 10 ** 29]:
            raised(self, InvalidState, {"given": state}, sample().begun_at, state)

    def test_trimmed(self):
        for automaton in SAMPLES:
            kept = automaton.reachable()
            rows = [(kept.index(source), letter, kept.index(target), kind)
                    for source, letter, target, kind in automaton.transitions() if source in kept]
            self.assertEqual(automaton.trimmed(), Automaton(automaton.alphabet, len(kept), rows,
                                                            initial=kept.index(automaton.initial)))
        automaton = Automaton("a", 4, [(0, "a", 0, "slip"), (1, "a", 3, "safe"), (2, "a", 0, "safe"),
                                       (3, "a", 1, "slip")], initial=3)
        self.assertEqual(automaton.trimmed(), Automaton("a", 2, [(0, "a", 1, "safe"), (1, "a", 0, "slip")], initial=1))

    def test_trimmed_of_the_greatest(self):
        automaton = in_a_row(64, Automaton("a", 1, [(0, "a", 0, "safe")]))
        self.assertEqual(automaton.trimmed(), automaton)
        self.assertEqual([len(automaton.begun_at(64).trimmed()), len(automaton.begun_at(60).trimmed())], [1, 5])


class RenumberedTest(unittest.TestCase):
    def test_the_state_at_an_index_gets_this_index(self):
        chance = random.Random(2)
        for automaton in SAMPLES:
            order = list(range(automaton.size))
            chance.shuffle(order)
            late = automaton.renumbered(order)
            self.assertEqual(order[late.initial], automaton.initial)
            self.assertEqual(sorted((order[source], letter, order[target], kind)
                                    for source, letter, target, kind in late.transitions()), automaton.transitions())
            self.assertEqual(automaton.renumbered(tuple(order)), late)
            self.assertEqual(automaton.renumbered(list(range(automaton.size))), automaton)

    def test_a_turn_of_three(self):
        automaton = Automaton("a", 3, [(0, "a", 1, "safe"), (1, "a", 1, "slip"), (2, "a", 0, "slip")], initial=2)
        self.assertEqual(automaton.renumbered(order=[1, 2, 0]),
                         Automaton("a", 3, [(2, "a", 0, "safe"), (0, "a", 0, "slip"), (1, "a", 2, "slip")], initial=1))

    def test_wrong_orders(self):
        for order in [*NOTHINGS, *NUMBERS, *WRONG_STRINGS, "012", [0, 1], [0, 1, 2, 3], [0, 0, 1], [1, 2, 3],
                      [-1, 0, 1], [False, True, 2], [0, True, 2], [0, 1, 2, 2], [0, 1, "2"], [0, 1, None],
                      [0, 1, [2]], (0, 1, (2,)), [[0, 1, 2]]]:
            raised(self, InvalidOrder, {"given": order}, sample().renumbered, order)


class EqualTest(unittest.TestCase):
    def test_written_otherwise(self):
        chance = random.Random(3)
        for automaton in SAMPLES:
            rows = automaton.transitions()
            chance.shuffle(rows)
            late = Automaton(automaton.alphabet, automaton.size, rows, initial=automaton.initial)
            self.assertIs(automaton == late, True)
            self.assertIs(automaton != late, False)

    def test_one_thing_changed(self):
        changed = [sample(initial=1), Automaton("ac", 3, [(s, "ac"["ab".index(l)], t, k) for s, l, t, k in ROWS]),
                   Automaton("ab", 4, [*ROWS, (3, "a", 3, "safe"), (3, "b", 3, "safe")]),
                   Automaton("ab", 3, [*ROWS, (0, "a", 2, "slip")])]
        for at, (source, letter, target, kind) in enumerate(ROWS):
            other = "slip" if kind == "safe" else "safe"
            changed.append(Automaton("ab", 3, [*ROWS[:at], (source, letter, target, other), *ROWS[at + 1:]]))
        changed.append(Automaton("ab", 3, [*ROWS[:-1], (2, "a", 0, "safe")]))
        changed.append(Automaton("ab", 3, ROWS[:2] + ROWS[3:]))
        for late in changed:
            self.assertIs(sample() == late, False)
            self.assertIs(sample() != late, True)

    def test_other_values(self):
        for value in [None, True, 3, "ab", ROWS, tuple(ROWS), repr(sample())]:
            self.assertIs(sample() == value, False)
            self.assertIs(sample() != value, True)


if __name__ == "__main__":
    unittest.main()
