"""The whole program: one library made in several ways, the same automata with other letters, and all examples."""

import unittest

from lastslip.desk import Desk
from lastslip.errors import InvalidText, InvalidWish, InvalidWord
from lastslip.hands import Hand, slips_on
from lastslip.joins import renamed
from lastslip.languages import Language
from lastslip.least import embedding, least, least_paper
from lastslip.library import Library
from lastslip.pages import library_page, read_page, table_of
from lastslip.papers import Harmful, Harmless, harmless
from lastslip.surveys import Survey
from lastslip.texts import automaton_text, read_automaton
from lastslip.trackers import determinize, pairs_of
from lastslip.watches import Watch
from lastslip.wishes import read_wish
from lastslip.words import Lasso

from samples import raised, some_automata, strings, writings

TEXTS = {"calm": "never:b,b", "rest": "blocks:a", "pair": "rest calm both", "far": "pair behind:ab",
         "odd": "blocks:ba,ab,b", "guess": "blocks:a blocks:b either", "late": "guess far either odd both"}


def by_methods():
    library = Library("ab", limit=12)
    for name, text in TEXTS.items():
        library.put(name, text)
    return library


def by_items():
    library = Library("ab", limit=12)
    for name, text in TEXTS.items():
        library[name] = "never:a"
        library[name] = text
    return library


def by_a_desk():
    library = Library("ab", limit=12)
    desk = Desk(library)
    for name, text in TEXTS.items():
        desk(f"put x{name} {text}")
        desk(f"rename x{name} {name}")
    return library


def by_a_page():
    return read_page(library_page(by_methods()))


def by_one_step():
    library = Library("ab", limit=12)
    library.apply(*[("put", name, text) for name, text in TEXTS.items()])
    return library


class LibraryTest(unittest.TestCase):
    def test_made_in_several_ways(self):
        wanted = by_methods()
        for make in (by_methods, by_items, by_a_desk, by_a_page, by_one_step):
            library = make()
            self.assertEqual(library, wanted)
            self.assertEqual(library_page(library), library_page(wanted))
            self.assertEqual(library.same(), wanted.same())
            self.assertEqual(library.computed, len(TEXTS))
            for name in TEXTS:
                self.assertEqual(library[name], wanted[name])
                self.assertEqual(library.automaton_of(name), wanted.automaton_of(name))
                self.assertEqual(library.language_of(name).tracker, wanted.language_of(name).tracker)
                self.assertEqual(library.touched(name), wanted.touched(name))
            desks = Desk(library), Desk(wanted)
            for line in [f"{word} {name}" for name in TEXTS for word in ("size", "guesses", "example", "gap", "least")]:
                self.assertEqual(desks[0](line), desks[1](line))
            for one in TEXTS:
                for other in TEXTS:
                    for word in ("apart", "stands"):
                        self.assertEqual(desks[0](f"{word} {one} {other}"), desks[1](f"{word} {one} {other}"))

    def test_the_ways_agree(self):
        library = by_methods()
        desk = Desk(library)
        for name in TEXTS:
            language = library.language_of(name)
            lean = language.least
            self.assertEqual(read_automaton(desk(f"least {name}").replace("; ", "\n")), lean)
            self.assertEqual(desk(f"size {name}"), f"size {len(table_of(lean))}")
            self.assertEqual(Language(read_automaton(automaton_text(library.automaton_of(name)))), language)
            watch = Watch(language)
            watch.feed("abb", "a")
            for prefix, loop in writings("ab", 1, 2):
                lasso = Lasso(prefix, loop)
                answers = {language.accepts("abba" + lasso), watch.accepts(lasso), language.rest("abba").accepts(lasso),
                           desk(f"accepts {name} {'abba' + lasso}") == "yes",
                           desk(f"slips {name} {'abba' + lasso}") != "slips for ever"}
                self.assertEqual(len(answers), 1)


class LettersTest(unittest.TestCase):
    """The same automata with other letters, in the same order and in another one."""

    def test_letters_in_order(self):
        for automaton in some_automata(290, 30, ("ab",), (1, 2, 3), 4):
            late = renamed(automaton, "kz")
            self.assertEqual(least(late), renamed(least(automaton), "kz"))
            self.assertEqual(determinize(late), renamed(determinize(automaton), "kz"))
            self.assertEqual(pairs_of(late), pairs_of(automaton))
            self.assertEqual(least_paper(late).tracker, renamed(least_paper(automaton).tracker, "kz"))
            self.assertEqual(least_paper(late).ranks(), least_paper(automaton).ranks())
            one, other = harmless(automaton), harmless(late)
            self.assertEqual(one.told(), other.told())
            if type(one) is Harmless:
                moves = [(state, tracked, {"a": "k", "b": "z"}[letter], target) for state, tracked, letter, target in one.moves()]
                paper = Harmless(renamed(one.tracker, "kz"), moves, one.ranks())
                self.assertIs(paper.holds(late), True)
                self.assertEqual(embedding(late, paper), embedding(automaton, one))
            else:
                letters = [(*row[:2], {"a": "k", "b": "z"}[row[2]]) for row in one.letters()]
                self.assertIs(Harmful(renamed(one.tracker, "kz"), letters, one.ranks()).holds(late), True)

    def test_letters_in_another_order(self):
        for automaton in some_automata(291, 40, ("ab",), (1, 2, 3), 4):
            late = renamed(automaton, "ba")
            lean = least(late)
            self.assertEqual(lean.size, least(automaton).size)
            self.assertEqual(least(renamed(lean, "ba")), least(automaton))
            self.assertEqual(harmless(late).told(), harmless(automaton).told())

    def test_wishes_and_libraries(self):
        names = str.maketrans("ab", "xz")
        library, late = by_methods(), Library("xz", limit=12)
        for name in library:
            tokens = [token if token in TEXTS or token in ("both", "either") else
                      token.partition(":")[0] + ":" + token.partition(":")[2].translate(names)
                      for token in library.wish_of(name).tokens()]
            late.put(name, " ".join(tokens))
        self.assertEqual(late.same(), library.same())
        for name in library:
            self.assertEqual(late.automaton_of(name), renamed(library.automaton_of(name), "xz"))
            self.assertEqual(late.language_of(name).least, renamed(library.language_of(name).least, "xz"))
            one, other = Watch(library.language_of(name)), Watch(late.language_of(name))
            for word in strings("ab", 0, 3):
                one.feed(word)
                other.feed(word.translate(names))
                self.assertEqual((one.place, one.slips, one.resets, one.verdict()),
                                 (other.place, other.slips, other.resets, other.verdict()))

    def test_one_more_letter(self):
        for text in TEXTS.values():
            wish = read_wish(text)
            if not wish.names():
                survey = Survey(determinize(wish.compiled("abc")))
                self.assertEqual(survey.automaton.alphabet, "abc")
                language = Language.of_wish("abc", text)
                for prefix, loop in writings("ab", 2, 2):
                    self.assertIs(language.accepts(Lasso(prefix, loop)), Language.of_wish("ab", text).accepts(Lasso(prefix, loop)))
                self.assertIs(language.accepts(Lasso("", "c")), text.startswith("never"))


class ExampleTest(unittest.TestCase):
    """The examples at the end of the document."""

    def test_lassos(self):
        found = [str(Lasso("ab", "abab")), Lasso("b", "ab") == Lasso.of_text("(ba)"), str("a" + Lasso.of_text("(b)")),
                 str(Lasso.of_text("ab(c)") >> 1)]
        self.assertEqual(found, ["(ab)", True, "a(b)", "b(c)"])
        raised(self, InvalidWord, {"given": ""}, Lasso, "a", "")

    def test_wishes(self):
        wanted = read_wish("blocks:a blocks:b either").compiled("ab")
        self.assertEqual([repr(wanted), harmless(wanted).told(), least(wanted).transitions()],
                         ["Automaton(3 states, 8 transitions)", "harmful",
                          [(0, "a", 0, "safe"), (0, "b", 0, "slip"), (0, "b", 1, "slip"), (1, "a", 0, "slip"),
                           (1, "a", 1, "slip"), (1, "b", 1, "safe")]])
        self.assertEqual(pairs_of(wanted), [((0,), (0,)), ((1, 2), (1,)), ((1, 2), (2,)), ((1, 2), (1, 2))])
        hand = Hand.of_least(wanted)
        self.assertEqual([slips_on(hand, Lasso.of_text("bb(a)")), slips_on(hand, Lasso.of_text("(ab)")), len(hand)],
                         [2, None, 0])
        raised(self, InvalidWish, {"at": 1}, read_wish, "never:a both")

    def test_a_desk(self):
        library = Library("ab")
        library.put("calm", "never:b")
        library.put("rest", "blocks:a")
        desk = Desk(library)
        self.assertEqual([library.same(), desk("size calm"), desk("accepts rest bab(a)"), desk("drop none"),
                          desk("put c  never:a")],
                         [[("calm", "rest")], "size 1", "yes", "error UnknownName", "error InvalidWish"])

    def test_a_text(self):
        raised(self, InvalidText, {"line": 4}, read_automaton, "alphabet a\nstates 1\ninitial 0\n")


if __name__ == "__main__":
    unittest.main()
