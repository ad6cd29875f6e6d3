"""lastslip/components.py."""

import unittest

from lastslip.automata import Automaton
from lastslip.components import components, normal

from samples import in_a_row, really_accepts, some_automata, writings

SAMPLES = some_automata(11, 120, ("a", "ab", "xyz"), (1, 2, 3, 4, 6, 9), 15)


def led_to(automaton):
    """For each state the states to which safe transitions lead from it, with itself."""
    reach = [[source == target for target in range(automaton.size)] for source in range(automaton.size)]
    for source, _, target, kind in automaton.transitions():
        if kind == "safe":
            reach[source][target] = True
    for middle in range(automaton.size):
        for source in range(automaton.size):
            for target in range(automaton.size):
                if reach[source][middle] and reach[middle][target]:
                    reach[source][target] = True
    return reach


class ComponentsTest(unittest.TestCase):
    def test_two_states_that_lead_to_each_other(self):
        for automaton in SAMPLES:
            reach = led_to(automaton)
            lots = components(automaton)
            self.assertEqual(sorted(state for lot in lots for state in lot), list(range(automaton.size)))
            self.assertEqual(lots, sorted(sorted(lot) for lot in lots))
            place = {state: at for at, lot in enumerate(lots) for state in lot}
            for source in range(automaton.size):
                for target in range(automaton.size):
                    self.assertEqual(place[source] == place[target], reach[source][target] and reach[target][source])

    def test_known_ones(self):
        rows = [(0, "a", 3, "safe"), (3, "a", 0, "safe"), (1, "a", 2, "safe"), (2, "a", 2, "slip"), (4, "a", 1, "slip")]
        self.assertEqual(components(Automaton("a", 5, rows)), [[0, 3], [1], [2], [4]])
        circle = Automaton("a", 65, [(state, "a", (state + 1) * 2 % 65, "safe") for state in range(65)], initial=7)
        self.assertEqual(sum(len(lot) for lot in components(circle)), 65)
        ring = Automaton("a", 65, [(state, "a", (state + 64) % 65, "safe") for state in range(65)])
        self.assertEqual(components(ring), [list(range(65))])
        self.assertEqual(components(in_a_row(64, Automaton("a", 1, [(0, "a", 0, "safe")]))), [[at] for at in range(65)])

    def test_the_list_is_new(self):
        lots = components(SAMPLES[0])
        lots[0].append(99)
        self.assertNotIn(99, components(SAMPLES[0])[0])


class NormalTest(unittest.TestCase):
    def test_slips_between_components(self):
        changed = 0
        for automaton in SAMPLES:
            before = automaton.transitions()
            reach = led_to(automaton)
            wanted = [(source, letter, target, kind if reach[target][source] else "slip")
                      for source, letter, target, kind in before]
            late = normal(automaton)
            self.assertEqual(late, Automaton(automaton.alphabet, automaton.size, wanted, initial=automaton.initial))
            self.assertEqual(automaton.transitions(), before)
            self.assertEqual(normal(late), late)
            self.assertEqual(components(late), components(automaton))
            changed += late != automaton
        self.assertGreater(changed, 20)

    def test_the_same_lassos_are_accepted(self):
        for automaton in some_automata(12, 25):
            late = normal(automaton)
            for prefix, loop in [*writings("ab", 2, 4), ("abba", "abbab"), ("", "ababbb"), ("bab", "aabab")]:
                self.assertEqual(really_accepts(late, prefix, loop), really_accepts(automaton, prefix, loop))


if __name__ == "__main__":
    unittest.main()
