"""lastslip/languages.py."""

import random
import unittest

from lastslip.automata import Automaton
from lastslip.errors import (DifferentAlphabets, InvalidAlphabet, InvalidWish, InvalidWord, StrangeLetter, TooMany,
                             UnknownName)
from lastslip.joins import behind, both, either
from lastslip.languages import Language
from lastslip.least import least, least_paper
from lastslip.trackers import after, determinize
from lastslip.wishes import read_wish
from lastslip.words import Lasso

from oracles import wish_has
from samples import (GREAT, GREAT_TEXTS, NARROW, NOTHINGS, NUMBERS, WIDE, WRONG_STRINGS, raised, real_tracker,
                     really_accepts, some_automata, strings, writings, written)

SHORT = writings("ab", 2, 3)
ALL = written("ab", 1, 0, "0a0 0b0")
NONE = written("ab", 1, 0, "0a0! 0b0!")
TEXTS = ["never:a", "never:b", "never:ab", "blocks:a,bb", "blocks:ab behind:b", "never:a never:b either",
         "blocks:a,b", "never:a,b", "never:aa behind:ab", "blocks:ab blocks:aab either"]


def ring(many, alphabet="ab"):
    """A ring of so many states; only the step from the last one slips, by the last letter."""
    rows = [[((at + 1) - many * (at == many - 1), "safe")] * (len(alphabet) - 1)
            + [((at + 1) - many * (at == many - 1), "slip" if at == many - 1 else "safe")] for at in range(many)]
    return Automaton.deterministic(alphabet, rows)


def line(many):
    """A deterministic automaton in which a word of so many letters a leads to a loop of safe letters b."""
    return behind("a" * (many - 2), written("ab", 1, 0, "0a0! 0b0"))


def inside(language, lassos):
    """Which lassos are in the language."""
    return [language.accepts(Lasso(prefix, loop)) for prefix, loop in lassos]


class MadeTest(unittest.TestCase):
    def test_attributes(self):
        for automaton in some_automata(220, 40, ("ab", "a", "xyz"), (1, 2, 3, 4), 4):
            language = Language(automaton=automaton)
            self.assertEqual(language.alphabet, automaton.alphabet)
            self.assertEqual(language.least, least(automaton))
            self.assertEqual(language.tracker, least_paper(automaton).tracker)
            self.assertEqual(len(language), len(least(automaton)))
            self.assertEqual(repr(language), f"Language({len(language)} states)")
            self.assertIs(bool(language), True)
        self.assertEqual(repr(Language(ALL)), "Language(1 states)")

    def test_great_trackers(self):
        for many, automaton in GREAT:
            if many > 65:
                raised(self, TooMany, {"most": 65}, Language, automaton)
            else:
                language = Language(automaton)
                self.assertEqual((language.tracker.size, language.least), (many, least(automaton)))
        # A deterministic automaton needs no tracker of its own, and a least automaton that is guesses none.
        self.assertEqual(Language(ring(65)).tracker.size, 65)
        self.assertEqual(Language(NARROW).least, WIDE)
        raised(self, TooMany, {"most": 65}, Language, WIDE)

    def test_of_wish(self):
        for text in TEXTS:
            language = Language.of_wish("ab", text)
            self.assertEqual(language.least, least(read_wish(text).compiled("ab")))
            self.assertEqual(language.tracker, least_paper(read_wish(text).compiled("ab")).tracker)
            self.assertEqual(inside(language, SHORT), [wish_has(text, *lasso) for lasso in SHORT])
        self.assertEqual(Language.of_wish(text="never:z", alphabet="xyz").alphabet, "xyz")

    def test_of_wish_refused(self):
        for text, at in (("never:a both", 1), ("", -1), ("never:a never:a", -1), ("Never:a", 0), (None, -1), (["a"], -1)):
            raised(self, InvalidWish, {"at": at}, Language.of_wish, "ab", text)
        raised(self, StrangeLetter, {"given": "c"}, Language.of_wish, "ab", "never:c x both")
        raised(self, UnknownName, {"name": "y"}, Language.of_wish, "ab", "never:a y both x both")
        raised(self, TooMany, {"most": 65}, Language.of_wish, "ab", "never:a" + " behind:aaaaaa" * 10)
        for many, text in GREAT_TEXTS:
            if many > 65:
                raised(self, TooMany, {"most": 65}, Language.of_wish, "ab", text)
            else:
                self.assertEqual(Language.of_wish("ab", text).tracker.size, many)

    def test_whole(self):
        for alphabet in ("a", "ab", "xyz"):
            language = Language.whole(alphabet)
            self.assertEqual((language.alphabet, len(language), language.gap()), (alphabet, 1, None))
            self.assertEqual(language.least.transitions(), [(0, letter, 0, "safe") for letter in alphabet])
            self.assertEqual(language.tracker, language.least)
        self.assertEqual(Language.whole(alphabet="ab"), Language(ALL))
        for value in ["", "ba", "aa", "abcd", "A", "a b", *WRONG_STRINGS, *NOTHINGS, *NUMBERS]:
            raised(self, InvalidAlphabet, {"given": value}, Language.whole, value)


class AskedTest(unittest.TestCase):
    def test_accepts(self):
        answers = []
        for automaton in some_automata(221, 40, ("ab", "xyz"), (1, 2, 3, 4), 4):
            lassos = writings(automaton.alphabet, 2 if automaton.alphabet == "ab" else 1, 2)
            found = inside(Language(automaton), lassos)
            self.assertEqual(found, [really_accepts(automaton, *lasso) for lasso in lassos])
            answers += found
        self.assertGreater(min(answers.count(True), answers.count(False)), 100)
        for text, letter in (("(c)", "c"), ("ab(ac)", "c"), ("z(c)", "z"), ("abd(xa)", "d"), ("ca(a)", "c")):
            raised(self, StrangeLetter, {"given": letter}, Language(ALL).accepts, Lasso.of_text(text))
        self.assertIs(Language(ALL).accepts(lasso=Lasso("a", "b")), True)

    def test_example_and_gap(self):
        seen = set()
        for automaton in [ALL, NONE, *some_automata(222, 60, ("ab", "xyz"), (1, 2, 3), 4)]:
            language = Language(automaton)
            lassos = writings(automaton.alphabet, 2, 2)
            answers = [really_accepts(automaton, *lasso) for lasso in lassos]
            one, other = language.example(), language.gap()
            seen |= {(one is None, other is None)}
            if one is None:
                self.assertNotIn(True, answers)
            else:
                self.assertIs(really_accepts(automaton, one.prefix, one.loop), True)
            if other is None:
                self.assertNotIn(False, answers)
            else:
                self.assertIs(really_accepts(automaton, other.prefix, other.loop), False)
        self.assertEqual(seen, {(True, False), (False, True), (False, False)})

    def test_within_and_apart(self):
        languages = [Language.of_wish("ab", text) for text in TEXTS] + [Language(ALL), Language(NONE)]
        rows = [inside(language, SHORT) for language in languages]
        for one, row in zip(languages, rows):
            for other, late in zip(languages, rows):
                self.assertIs(one.within(other), all(right or not left for left, right in zip(row, late)))
                lasso = one.apart(other=other)
                self.assertIs(lasso is None, row == late)
                self.assertIs(one == other, row == late)
                self.assertIs(one != other, row != late)
                if lasso is not None:
                    self.assertIs(one.accepts(lasso), not other.accepts(lasso))
        raised(self, DifferentAlphabets, {}, Language(ALL).within, Language.whole("a"))
        raised(self, DifferentAlphabets, {}, Language(ALL).apart, Language.whole("abc"))

    def test_equal_languages(self):
        for one, other in zip(some_automata(223, 30), some_automata(224, 30)):
            self.assertIs(Language(one) == Language(other), least(one) == least(other))
            self.assertEqual(Language(one), Language(least(one)))
            self.assertEqual(Language(one), Language(determinize(one)))
        for value in [*NOTHINGS, *NUMBERS, ALL, least(ALL), "ab"]:
            self.assertIs(Language(ALL) == value, False)
        self.assertNotEqual(Language.whole("ab"), Language.whole("ac"))


class JoinedTest(unittest.TestCase):
    def test_common_and_union(self):
        languages = [Language.of_wish("ab", text) for text in TEXTS[:6]]
        rows = [inside(language, SHORT) for language in languages]
        for at, one in enumerate(languages):
            self.assertEqual(one.common(), one)
            self.assertEqual(one.union(), one)
            for late, other in enumerate(languages):
                pairs = list(zip(rows[at], rows[late]))
                found = one.common(other)
                self.assertEqual(inside(found, SHORT), [all(pair) for pair in pairs])
                self.assertEqual(found.tracker, least_paper(both(one.tracker, other.tracker)).tracker)
                found = one.union(other)
                self.assertEqual(inside(found, SHORT), [any(pair) for pair in pairs])
                self.assertEqual(found.tracker, least_paper(either(one.tracker, other.tracker)).tracker)
                self.assertEqual(found.alphabet, "ab")

    def test_several_others(self):
        languages = [Language.of_wish("ab", text) for text in TEXTS[:4]]
        rows = [inside(language, SHORT) for language in languages]
        many = list(zip(*rows))
        self.assertEqual(inside(languages[0].common(*languages[1:]), SHORT), [all(row) for row in many])
        self.assertEqual(inside(languages[0].union(*languages[1:]), SHORT), [any(row) for row in many])
        one, other, third = languages[:3]
        self.assertEqual(one.common(other, third), one.common(other).common(third))
        self.assertEqual(one.union(other, third), one.union(other).union(third))
        self.assertEqual(one.common(one, one), one)
        self.assertEqual(one.union(one, one, one), one)
        self.assertEqual(one.tracker, Language.of_wish("ab", TEXTS[0]).tracker)

    def test_common_with_too_many_states(self):
        for one, other, good in ((5, 13, True), (13, 5, True), (6, 11, False), (65, 1, True), (65, 2, False), (8, 9, False)):
            languages = Language(ring(one)), Language(ring(other))
            self.assertEqual([language.tracker.size for language in languages], [one, other])
            if good:
                self.assertEqual(languages[0].common(languages[1]).tracker.size, one * other)
            else:
                raised(self, TooMany, {"most": 65}, languages[0].common, languages[1])
                raised(self, TooMany, {"most": 65}, languages[0].common, Language(ALL), languages[1], Language(NONE))
        # From left to right: the error comes ahead of the other alphabet behind it, but not ahead of that before it.
        raised(self, TooMany, {"most": 65}, Language(ring(6)).common, Language(ring(11)), Language.whole("a"))
        raised(self, DifferentAlphabets, {}, Language(ring(6)).common, Language.whole("a"), Language(ring(11)))

    def test_union_with_too_many_states(self):
        for one, other in ((32, 32), (3, 61), (61, 3)):
            first, second = Language(line(one)), Language(line(other))
            self.assertEqual([first.tracker.size, second.tracker.size], [one, other])
            self.assertEqual(inside(first.union(second), [("a" * (one - 2), "b"), ("a" * (other - 2), "b"), ("b", "b")]),
                             [True, True, False])
            raised(self, TooMany, {"most": 65}, first.union, Language(line(other + 1)))
            raised(self, TooMany, {"most": 65}, Language(line(one + 1)).union, second)
            raised(self, TooMany, {"most": 65}, first.union, second, Language(NONE))
        # From left to right, here too: 1 + (1 + 20 + 20) + 23 is 65.
        parts = [Language(line(many)) for many in (20, 20, 23, 24)]
        self.assertEqual(parts[0].union(parts[1], parts[2]), parts[0].union(parts[2]))
        raised(self, TooMany, {"most": 65}, parts[0].union, parts[1], parts[3])
        raised(self, TooMany, {"most": 65}, parts[0].union, parts[1], parts[3], Language.whole("a"))
        raised(self, DifferentAlphabets, {}, parts[0].union, Language.whole("a"), Language(line(50)))
        # The tracker of a small automaton may be too great, too.
        chance = random.Random(225)
        seen = 0
        for _ in range(20):
            pair = [ring(chance.randrange(4, 14)) for _ in range(2)]
            joined = either(*pair)
            many = len(real_tracker(joined, 65)[0])
            first, second = Language(pair[0]), Language(pair[1])
            if many > 65:
                seen += 1
                raised(self, TooMany, {"most": 65}, first.union, second)
            else:
                self.assertEqual(first.union(second).tracker.size, many)
        self.assertGreater(seen, 2)

    def test_different_alphabets(self):
        for other in ("a", "b", "ac", "abc"):
            raised(self, DifferentAlphabets, {}, Language(ALL).common, Language.whole(other))
            raised(self, DifferentAlphabets, {}, Language(ALL).union, Language.whole(other))
            raised(self, DifferentAlphabets, {}, Language(ALL).common, Language(NONE), Language.whole(other))
            raised(self, DifferentAlphabets, {}, Language(ALL).union, Language(NONE), Language.whole(other))

    def test_begun(self):
        for text in TEXTS:
            language = Language.of_wish("ab", text)
            for word in strings("ab", 0, 3):
                found = language.begun(word)
                self.assertEqual(found, Language(behind(word, language.tracker)))
                self.assertEqual(found.tracker, least_paper(behind(word, language.tracker)).tracker)
                token = f"{text} behind:{word}" if word else text
                self.assertEqual(inside(found, writings("ab", 3, 2)),
                                 [wish_has(token, *lasso) for lasso in writings("ab", 3, 2)])
        self.assertEqual(Language(ALL).begun(word=""), Language(ALL))
        self.assertEqual(Language(ALL).begun("a" * 63).tracker.size, 65)
        raised(self, TooMany, {"most": 65}, Language(ALL).begun, "a" * 64)
        self.assertEqual(Language.whole("a").begun("a" * 64), Language.whole("a"))
        raised(self, TooMany, {"most": 65}, Language.whole("a").begun, "a" * 65)

    def test_rest(self):
        for text in TEXTS:
            language = Language.of_wish("ab", text)
            for word in strings("ab", 0, 3):
                found = language.rest(word)
                self.assertEqual(found, Language(after(language.tracker, word)))
                self.assertEqual(found.tracker, least_paper(after(language.tracker, word)).tracker)
                self.assertEqual(inside(found, SHORT), [wish_has(text, word + prefix, loop) for prefix, loop in SHORT])
                self.assertEqual(language.begun(word).rest(word), language)
        self.assertEqual(Language(ALL).rest(word=""), Language(ALL))
        self.assertEqual(Language(line(65)).rest("a" * 63), Language.of_wish("ab", "never:a"))
        self.assertEqual(Language(line(65)).rest("a" * 200), Language.of_wish("ab", "never:a"))
        self.assertIsNone(Language(line(65)).rest("ab" * 100).example())

    def test_wrong_words(self):
        for call in (Language(ALL).begun, Language(ALL).rest):
            for word in [*NOTHINGS, *NUMBERS, *WRONG_STRINGS, "a" * 201, "c" * 201]:
                raised(self, InvalidWord, {"given": word}, call, word)
            for word, letter in (("c", "c"), ("abzc", "z"), ("a" * 199 + "d", "d")):
                raised(self, StrangeLetter, {"given": letter}, call, word)

    def test_nothing_changes_a_language(self):
        language = Language.of_wish("ab", "blocks:ab never:b either")
        kept = (language.alphabet, language.tracker, language.least, len(language))
        other = Language.of_wish("ab", "never:ab")
        for call in (language.common, language.union, language.apart, language.within):
            call(other)
        language.begun("ab")
        language.rest("ba")
        language.tracker.transitions().clear()
        self.assertEqual((language.alphabet, language.tracker, language.least, len(language)), kept)
        self.assertEqual(other, Language.of_wish("ab", "never:ab"))


if __name__ == "__main__":
    unittest.main()
