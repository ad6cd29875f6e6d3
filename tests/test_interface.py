"""The names and parameters of the interface, and the files in which they are defined."""

import importlib
import inspect
import unittest

FUNCTIONS = {
    "words": ["is_number(value, least, most)", "is_word(value, most=200)", "is_alphabet(value)",
              "words_of(alphabet, most)"],
    "components": ["components(automaton)", "normal(automaton)"],
    "runs": ["accepting_run(automaton, lasso)", "accepts(automaton, lasso)"],
    "trackers": ["determinize(automaton)", "pairs_of(automaton)", "after(automaton, word)"],
    "relations": ["beyond(one, other)", "separating(one, other)", "within(one, other)", "same_words(one, other)",
                  "accepted_word(automaton)", "refused_word(automaton)"],
    "papers": ["harmless(automaton)", "used(automaton, paper)"],
    "least": ["least(automaton)", "least_paper(automaton)", "embedding(automaton, paper)"],
    "hands": ["slips_on(hand, lasso)", "safe_moves(hand)", "is_calm(hand, word)"],
    "judging": ["judge(automaton, wanted)", "can_stand_for(automaton, wanted)"],
    "boards": ["winner(board, automaton, start=0)", "plan(board, automaton, start=0)", "harm_board(automaton, paper)"],
    "joins": ["both(one, other)", "either(one, other)", "behind(word, automaton)", "renamed(automaton, letters)"],
    "wishes": ["is_name(value)", "read_wish(text)"],
    "texts": ["automaton_text(automaton)", "read_automaton(text)"],
    "pages": ["library_page(library)", "read_page(text)", "table_of(automaton)"],
}
CLASSES = {
    "words": {"Lasso": ["__init__(self, prefix, loop)", "letter_at(self, index)", "start(self, many)",
                        "letters(self)"]},
    "automata": {"Automaton": ["__init__(self, alphabet, size, transitions, *, initial=0)", "moves(self, state, letter)",
                               "targets(self, state, letter, word=None)", "transitions(self)", "reachable(self)",
                               "renumbered(self, order)", "trimmed(self)", "begun_at(self, state)"]},
    "runs": {"Run": ["__init__(self, states, turn)", "states(self)", "holds(self, automaton, lasso)"]},
    "surveys": {"Survey": ["__init__(self, automaton)", "kin(self, one, other)", "safe_within(self, one, other)",
                           "below(self, one, other)", "alike(self, one, other)", "rank(self, state)",
                           "is_safe(self, state, word)", "lasso_apart(self, one, other)",
                           "word_apart(self, one, other)", "groups(self)", "kept(self)"]},
    "papers": {"Harmless": ["__init__(self, tracker, moves, ranks)", "moves(self)", "ranks(self)", "told(self)",
                            "holds(self, automaton)"],
               "Harmful": ["__init__(self, tracker, letters, ranks)", "letters(self)", "ranks(self)", "told(self)",
                           "holds(self, automaton)"]},
    "hands": {"Hand": ["__init__(self, automaton, paper)", "__call__(self, letter)", "read(self, word)",
                       "preview(self, word)", "back(self)", "twin(self)"]},
    "judging": {"Parted": ["__init__(self, lasso, accepted)", "told(self)", "holds(self, automaton, wanted)"]},
    "boards": {"Board": ["__init__(self, owners, moves)", "owner(self, node)", "moves_of(self, node)", "letters(self)"],
               "Plan": ["__init__(self, player, rows, ranks)", "rows(self)", "ranks(self)"]},
    "wishes": {"Wish": ["tokens(self)", "text(self)", "names(self)", "needed(self)",
                        "compiled(self, alphabet, table=None)"],
               "Never": ["__init__(self, *words)"], "Blocks": ["__init__(self, *words)"],
               "Behind": ["__init__(self, word, part)"], "Both": ["__init__(self, one, other)"],
               "Either": ["__init__(self, one, other)"], "Named": ["__init__(self, name)"]},
    "languages": {"Language": ["__init__(self, automaton)", "accepts(self, lasso)", "example(self)", "gap(self)",
                               "within(self, other)", "apart(self, other)", "common(self, *others)",
                               "union(self, *others)", "begun(self, word)", "rest(self, word)"]},
    "watches": {"Watch": ["__init__(self, language, *, limit=200)", "set_limit(self, value)", "feed(self, *words)",
                          "undo(self)", "redo(self)", "history(self)", "text(self)", "rest(self)", "verdict(self)",
                          "accepts(self, lasso)", "twin(self)"]},
    "library": {"Library": ["__init__(self, alphabet, *, limit=6)", "set_limit(self, value)", "apply(self, *commands)",
                            "put(self, name, text)", "change(self, name, text)", "drop(self, name)",
                            "rename(self, name, late)", "names(self)", "wish_of(self, name)", "users(self, name)",
                            "touched(self, name)", "automaton_of(self, name)", "language_of(self, name)", "kept(self)",
                            "same(self)", "undo(self)", "redo(self)", "history(self)", "twin(self)"]},
    "desk": {"Desk": ["__init__(self, library)", "answer(self, line)", "__call__(self, line)", "log(self)"]},
}
OPERATORS = {"Lasso": ["__getitem__", "__radd__", "__rshift__", "__eq__", "__str__", "__repr__"],
             "Automaton": ["__len__", "__eq__", "__repr__"], "Run": ["__eq__", "__repr__"],
             "Survey": [], "Harmless": ["__eq__", "__repr__"], "Harmful": ["__eq__", "__repr__"],
             "Hand": ["__len__", "__bool__", "__repr__"], "Parted": ["__eq__", "__repr__"],
             "Board": ["__len__", "__eq__", "__repr__"], "Plan": ["__len__", "__repr__"],
             "Wish": ["__and__", "__or__", "__eq__", "__repr__"],
             "Language": ["__len__", "__bool__", "__eq__", "__repr__"], "Watch": ["__len__", "__bool__", "__repr__"],
             "Library": ["__contains__", "__getitem__", "__setitem__", "__iter__", "__len__", "__bool__", "__eq__",
                         "__repr__"], "Desk": ["__len__", "__bool__", "__repr__"]}
CLASS_METHODS = {"Lasso": {"of_text": "(text)"}, "Automaton": {"deterministic": "(alphabet, rows, *, initial=0)"},
                 "Hand": {"of": "(automaton)", "of_least": "(automaton)"},
                 "Language": {"of_wish": "(alphabet, text)", "whole": "(alphabet)"}}
PROPERTIES = {"automata": {"Automaton": ["is_deterministic"]}, "hands": {"Hand": ["place", "tracked", "slips", "resets"]},
              "watches": {"Watch": ["limit", "place", "slips", "resets"]},
              "library": {"Library": ["limit", "busy", "computed"]}}
# The properties that can be assigned, and the values that belong to classes.
SETTERS = {"watches": {"Watch": ["limit"]}, "library": {"Library": ["limit"]}}
VALUES = {"words": {"Lasso": {"MOST": 10000}}, "automata": {"Automaton": {"MOST": 65}}, "boards": {"Board": {"MOST": 20000}},
          "watches": {"Watch": {"MOST": 1000}}, "library": {"Library": {"MOST": 12}}}


class InterfaceTest(unittest.TestCase):
    def test_functions(self):
        for name, written in FUNCTIONS.items():
            module = importlib.import_module("lastslip." + name)
            for text in written:
                function = getattr(module, text.partition("(")[0])
                self.assertEqual(function.__module__, "lastslip." + name)
                self.assertEqual(function.__name__ + str(inspect.signature(function)), text)

    def test_classes(self):
        for name, classes in CLASSES.items():
            module = importlib.import_module("lastslip." + name)
            for title, written in classes.items():
                made = getattr(module, title)
                self.assertEqual(made.__module__, "lastslip." + name)
                for text in written:
                    method = vars(made)[text.partition("(")[0]]
                    self.assertEqual(method.__name__ + str(inspect.signature(method)), text)
                for operator in OPERATORS.get(title, []):
                    self.assertIn(operator, vars(made))
                for method, text in CLASS_METHODS.get(title, {}).items():
                    self.assertIsInstance(vars(made)[method], classmethod)
                    self.assertEqual(str(inspect.signature(getattr(made, method))), text)

    def test_properties(self):
        for name, classes in PROPERTIES.items():
            module = importlib.import_module("lastslip." + name)
            for title, names in classes.items():
                for one in names:
                    found = vars(getattr(module, title))[one]
                    self.assertIsInstance(found, property)
                    self.assertIs(found.fset is not None, one in SETTERS.get(name, {}).get(title, []))

    def test_values_of_classes(self):
        for name, classes in VALUES.items():
            for title, values in classes.items():
                made = getattr(importlib.import_module("lastslip." + name), title)
                for one, value in values.items():
                    self.assertEqual(vars(made)[one], value)


if __name__ == "__main__":
    unittest.main()
