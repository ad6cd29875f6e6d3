"""The names and parameters of the interface, and the files in which they are defined."""

import importlib
import inspect
import unittest

FUNCTIONS = {
    "words": ["is_number(value, least, most)", "is_word(value, most=200)", "is_alphabet(value)",
              "words_of(alphabet, most)"],
    "components": ["components(automaton)", "normal(automaton)"],
    "runs": ["accepting_run(automaton, lasso)", "accepts(automaton, lasso)"],
    "trackers": ["determinize(automaton)", "pairs_of(automaton)", "after(automaton, word)"],
    "relations": ["beyond(one, other)", "separating(one, other)", "within(one, other)", "same_words(one, other)",
                  "accepted_word(automaton)", "refused_word(automaton)"],
    "papers": ["harmless(automaton)", "used(automaton, paper)"],
    "least": ["least(automaton)", "least_paper(automaton)", "embedding(automaton, paper)"],
    "hands": ["slips_on(hand, lasso)", "safe_moves(hand)", "is_calm(hand, word)"],
    "judging": ["judge(automaton, wanted)", "can_stand_for(automaton, wanted)"],
    "boards": ["winner(board, automaton, start=0)", "plan(board, automaton, start=0)", "harm_board(automaton, paper)"],
    "joins": ["both(one, other)", "either(one, other)", "behind(word, automaton)", "renamed(automaton, letters)"],
}
CLASSES = {
    "words": {"Lasso": ["__init__(self, prefix, loop)", "letter_at(self, index)", "start(self, many)",
                        "letters(self)"]},
    "automata": {"Automaton": ["__init__(self, alphabet, size, transitions, *, initial=0)", "moves(self, state, letter)",
                               "targets(self, state, letter, word=None)", "transitions(self)", "reachable(self)",
                               "renumbered(self, order)", "trimmed(self)", "begun_at(self, state)"]},
    "runs": {"Run": ["__init__(self, states, turn)", "states(self)", "holds(self, automaton, lasso)"]},
    "surveys": {"Survey": ["__init__(self, automaton)", "kin(self, one, other)", "safe_within(self, one, other)",
                           "below(self, one, other)", "alike(self, one, other)", "rank(self, state)",
                           "is_safe(self, state, word)", "lasso_apart(self, one, other)",
                           "word_apart(self, one, other)", "groups(self)", "kept(self)"]},
    "papers": {"Harmless": ["__init__(self, tracker, moves, ranks)", "moves(self)", "ranks(self)", "told(self)",
                            "holds(self, automaton)"],
               "Harmful": ["__init__(self, tracker, letters, ranks)", "letters(self)", "ranks(self)", "told(self)",
                           "holds(self, automaton)"]},
    "hands": {"Hand": ["__init__(self, automaton, paper)", "__call__(self, letter)", "read(self, word)",
                       "preview(self, word)", "back(self)", "twin(self)"]},
    "judging": {"Parted": ["__init__(self, lasso, accepted)", "told(self)", "holds(self, automaton, wanted)"]},
    "boards": {"Board": ["__init__(self, owners, moves)", "owner(self, node)", "moves_of(self, node)", "letters(self)"],
               "Plan": ["__init__(self, player, rows, ranks)", "rows(self)", "ranks(self)"]},
}
OPERATORS = {"Lasso": ["__getitem__", "__radd__", "__rshift__", "__eq__", "__str__", "__repr__"],
             "Automaton": ["__len__", "__eq__", "__repr__"], "Run": ["__eq__", "__repr__"],
             "Survey": [], "Harmless": ["__eq__", "__repr__"], "Harmful": ["__eq__", "__repr__"],
             "Hand": ["__len__", "__bool__", "__repr__"], "Parted": ["__eq__", "__repr__"],
             "Board": ["__len__", "__eq__", "__repr__"], "Plan": ["__len__", "__repr__"]}
CLASS_METHODS = {"Lasso": {"of_text": "(text)"}, "Automaton": {"deterministic": "(alphabet, rows, *, initial=0)"},
                 "Hand": {"of": "(automaton)", "of_least": "(automaton)"}}
PROPERTIES = {"automata": {"Automaton": ["is_deterministic"]}, "hands": {"Hand": ["place", "tracked", "slips", "resets"]}}


class InterfaceTest(unittest.TestCase):
    def test_functions(self):
        for name, written in FUNCTIONS.items():
            module = importlib.import_module("lastslip." + name)
            for text in written:
                function = getattr(module, text.partition("(")[0])
                self.assertEqual(function.__module__, "lastslip." + name)
                self.assertEqual(function.__name__ + str(inspect.signature(function)), text)

    def test_classes(self):
        for name, classes in CLASSES.items():
            module = importlib.import_module("lastslip." + name)
            for title, written in classes.items():
                made = getattr(module, title)
                self.assertEqual(made.__module__, "lastslip." + name)
                for text in written:
                    method = vars(made)[text.partition("(")[0]]
                    self.assertEqual(method.__name__ + str(inspect.signature(method)), text)
                for operator in OPERATORS[title]:
                    self.assertIn(operator, vars(made))
                for method, text in CLASS_METHODS.get(title, {}).items():
                    self.assertIsInstance(vars(made)[method], classmethod)
                    self.assertEqual(str(inspect.signature(getattr(made, method))), text)

    def test_properties(self):
        for name, classes in PROPERTIES.items():
            module = importlib.import_module("lastslip." + name)
            for title, names in classes.items():
                for one in names:
                    self.assertIsInstance(vars(getattr(module, title))[one], property)


if __name__ == "__main__":
    unittest.main()
