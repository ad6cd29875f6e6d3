"""The automata and the kept languages of a library in lastslip/library.py."""

import random
import unittest

from lastslip.errors import SlipError, Missing, TooMany, UnknownName
from lastslip.joins import behind, both, either
from lastslip.languages import Language
from lastslip.least import least
from lastslip.library import Library
from lastslip.wishes import read_wish
from lastslip.words import Lasso

from oracles import wish_has
from samples import NOTHINGS, NUMBERS, raised, really_accepts, writings

SHORT = writings("ab", 2, 3)
TEXTS = {"calm": "never:b", "rest": "blocks:a", "pair": "calm rest both", "far": "pair behind:ab", "odd": "never:ab",
         "some": "far odd either", "twice": "calm calm either", "end": "some twice both odd either"}


def filled(limit=8):
    library = Library("ab", limit=limit)
    library.apply(*[("put", name, text) for name, text in TEXTS.items()])
    return library


class AutomatonTest(unittest.TestCase):
    def test_names_stand_for_automata(self):
        library = filled()
        calm, rest, odd = [read_wish(TEXTS[name]).compiled("ab") for name in ("calm", "rest", "odd")]
        pair = both(calm, rest)
        far = behind("ab", pair)
        some = either(far, odd)
        twice = either(calm, calm)
        for name, wanted in {"calm": calm, "rest": rest, "pair": pair, "far": far, "odd": odd, "some": some,
                             "twice": twice, "end": either(both(some, twice), odd)}.items():
            self.assertEqual(library.automaton_of(name), wanted)
            self.assertEqual(library.automaton_of(name=name), wanted)
            self.assertEqual(library.language_of(name).least, least(wanted))
            self.assertEqual(library.language_of(name=name), Language(wanted))
            self.assertEqual(library.language_of(name).tracker, Language(wanted).tracker)
        library.change("calm", "never:a")
        self.assertEqual(library.automaton_of("pair"), both(read_wish("never:a").compiled("ab"), rest))
        library.rename("rest", "late")
        self.assertEqual(library.automaton_of("pair"), both(read_wish("never:a").compiled("ab"), rest))

    def test_what_they_accept(self):
        library = filled()
        answers = []
        for name in library:
            language = library.language_of(name)
            for prefix, loop in SHORT:
                answers.append(wish_has(name, prefix, loop, TEXTS))
                self.assertIs(language.accepts(Lasso(prefix, loop)), answers[-1])
                self.assertIs(really_accepts(library.automaton_of(name), prefix, loop), answers[-1])
        self.assertGreater(min(answers.count(True), answers.count(False)), 100)

    def test_unknown_names(self):
        library = filled()
        for name in [*NOTHINGS, *NUMBERS, "", "nobody", "both", "Calm"]:
            for call in (library.automaton_of, library.language_of, library.wish_of, library.users, library.touched):
                raised(self, UnknownName, {"name": name}, call, name)
        self.assertEqual((library.kept(), library.computed), ([], 0))

    def test_too_many_states(self):
        library = Library("ab", limit=12)
        library.put("x", "never:aaaaaa" + " behind:aaaaaa" * 3)
        library.put("y", "x x either")
        library.put("z", "y never:b both")
        library.put("k", "never:b")
        self.assertEqual([library.automaton_of(name).size for name in "xyk"], [27, 55, 1])
        library.put("w", "y x either")
        library.put("v", "w k both")
        for name in "wv":
            raised(self, TooMany, {"most": 65}, library.automaton_of, name)
            raised(self, TooMany, {"most": 65}, library.language_of, name)
        library.language_of("k")
        raised(self, TooMany, {"most": 65}, library.same)
        # A call that raises an error keeps and counts nothing.
        self.assertEqual((library.kept(), library.computed), (["k"], 1))
        library.apply(("drop", "v"), ("drop", "w"))
        self.assertEqual(library.same(), [("x", "y")])
        self.assertEqual((library.kept(), library.computed), (["k", "x", "y", "z"], 4))


class KeptTest(unittest.TestCase):
    def setUp(self):
        self.library = filled()

    def check(self, kept, computed):
        self.assertEqual((self.library.kept(), self.library.computed), (sorted(kept), computed))

    def test_computed_once(self):
        self.check([], 0)
        first = self.library.language_of("far")
        # Only the language of this name is computed.
        self.check(["far"], 1)
        self.assertEqual(self.library.language_of("far"), first)
        self.library.automaton_of("pair")
        self.check(["far"], 1)
        self.library.language_of("calm")
        self.check(["calm", "far"], 2)
        self.library.same()
        self.check(TEXTS, 8)
        self.library.same()
        self.library.language_of("end")
        self.check(TEXTS, 8)
        self.library.kept().clear()
        self.check(TEXTS, 8)

    def test_same(self):
        library = self.library
        wanted = [("calm", "rest", "pair", "twice"), ("odd", "some", "end")]
        self.assertEqual(library.same(), wanted)
        library.set_limit(12)
        library.put("again", "never:ba")
        library.put("none", "never:a,b")
        self.assertEqual(library.same(), [wanted[0], (*wanted[1], "again")])
        library.put("zero", "calm never:a both")
        self.assertEqual(library.same(), [wanted[0], (*wanted[1], "again"), ("none", "zero")])
        library.change("odd", "never:a,b")
        self.assertEqual(library.same(), [wanted[0], ("far", "some", "end"), ("odd", "none", "zero")])
        one = Library("ab")
        for name, text in (("z", "never:a"), ("b", "never:b"), ("y", "blocks:b"), ("a", "blocks:a"), ("x", "never:a")):
            one.put(name, text)
        # The tuples are ordered by their first names, in the order of the library.
        self.assertEqual(one.same(), [("z", "y", "x"), ("b", "a")])
        one.drop("z")
        self.assertEqual(one.same(), [("b", "a"), ("y", "x")])

    def test_change_drops_the_touched_ones(self):
        for name, touched in (("calm", ["calm", "pair", "far", "some", "twice", "end"]), ("end", ["end"]),
                              ("odd", ["odd", "some", "end"]), ("rest", ["rest", "pair", "far", "some", "end"])):
            self.library = filled()
            self.library.same()
            self.assertEqual(self.library.touched(name), touched)
            # Also to an equal text.
            self.library.change(name, TEXTS[name])
            self.check([other for other in TEXTS if other not in touched], 8)
            self.library.same()
            self.check(TEXTS, 8 + len(touched))

    def test_new_languages(self):
        self.library.same()
        self.library.change("calm", "never:a")
        self.assertEqual(self.library.language_of("pair").least.transitions(), [(0, "a", 0, "slip"), (0, "b", 0, "slip")])
        self.library.undo()
        self.assertEqual(self.library.language_of("pair"), self.library.language_of("calm"))

    def test_drop_and_put(self):
        self.library.same()
        self.library.drop("end")
        self.check([name for name in TEXTS if name != "end"], 8)
        self.library.put("end", TEXTS["end"])
        self.check([name for name in TEXTS if name != "end"], 8)
        self.library.language_of("end")
        self.check(TEXTS, 9)
        self.library.apply(("drop", "end"), ("put", "end", TEXTS["end"]))
        self.check([name for name in TEXTS if name != "end"], 9)

    def test_rename_keeps_languages(self):
        self.library.language_of("calm")
        far = self.library.language_of("far")
        self.library.language_of("odd")
        self.library.apply(("rename", "calm", "still"), ("rename", "far", "near"), ("rename", "end", "calm"))
        self.check(["still", "near", "odd"], 3)
        self.assertEqual(self.library.language_of("near"), far)
        # What uses a renamed wish keeps its language, too, and the new name leads to it.
        self.library.rename("pair", "two")
        self.check(["still", "near", "odd"], 3)
        self.library.change("still", "never:a")
        self.check(["odd"], 3)

    def test_several_commands(self):
        self.library.same()
        self.library.apply(("rename", "odd", "even"), ("change", "even", "never:ab"), ("rename", "even", "odd"))
        self.check([name for name in TEXTS if name not in ("odd", "some", "end")], 8)
        self.library.same()
        self.library.apply(("drop", "end"), ("put", "end", "calm"), ("change", "calm", "never:b"))
        self.check(["odd", "rest"], 11)

    def test_undo_and_redo_drop_all(self):
        self.library.same()
        self.library.apply()
        self.check(TEXTS, 8)
        self.library.undo()
        self.check([], 8)
        self.library.language_of("calm")
        self.library.redo()
        self.check([], 9)
        self.library.language_of("calm")
        self.check(["calm"], 10)
        self.library.undo()
        self.library.undo()
        self.check([], 10)
        self.library.redo()
        self.check([], 10)
        self.library.same()
        self.check(TEXTS, 18)

    def test_nothing_is_dropped_if_nothing_changes(self):
        self.library.same()
        for call in (lambda: self.library.apply(("change", "calm", "never:a"), ("drop", "calm")),
                     lambda: self.library.change("calm", "never:c"), lambda: self.library.drop("calm"),
                     lambda: self.library.rename("calm", "rest"), self.library.redo,
                     lambda: self.library.apply(("rename", "calm", "still"), None)):
            self.assertRaises((SlipError, Missing), call)
            self.check(TEXTS, 8)
        self.library.limit = 12
        self.library.put("more", "end")
        self.check(TEXTS, 8)

    def test_by_a_model(self):
        chance = random.Random(251)
        names, many = {}, 0
        library = self.library
        for _ in range(300):
            deed = chance.randrange(6)
            name = chance.choice(library.names())
            if deed < 3:
                many += name not in names
                names[name] = True
                library.language_of(name)
            elif deed == 3:
                for late in library.touched(name):
                    names.pop(late, None)
                library.change(name, library[name])
            elif deed == 4:
                late = "".join(chance.choice("xyz") for _ in range(8))
                if late not in library:
                    if names.pop(name, False):
                        names[late] = True
                    library.rename(name, late)
            elif chance.randrange(3) == 0:
                library.apply()
                library.undo()
                names = {}
            self.assertEqual((library.kept(), library.computed), (sorted(names), many))


if __name__ == "__main__":
    unittest.main()
