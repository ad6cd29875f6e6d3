"""Wishes, their tokens and their texts in lastslip/wishes.py."""

import random
import unittest

from lastslip.errors import InvalidName, InvalidWish, InvalidWord
from lastslip.wishes import Behind, Blocks, Both, Either, Named, Never, Wish, is_name, read_wish

from samples import NOTHINGS, NUMBERS, WRONG_STRINGS, raised

NO_PARTS = [*NOTHINGS, *NUMBERS, *WRONG_STRINGS, "", "a" * 7, "ab,c", "a:", "never:a"]
NAMES = ["a", "z", "never", "blocks", "behind", "bot", "botha", "eithers", "abcdefgh", "xyxyxyxy"]
NO_NAMES = [*NOTHINGS, *NUMBERS, *WRONG_STRINGS, "", "both", "either", "abcdefghi", "a" * 200, "a,b", "a:b", "a ", " a"]


class MadeTest(unittest.TestCase):
    """Wishes that are made by classes and signs."""

    def check(self, wish, tokens, names=(), needed=""):
        for _ in range(2):
            self.assertIsInstance(wish, Wish)
            self.assertEqual(wish.tokens(), tokens)
            self.assertEqual(wish.text(), " ".join(tokens))
            self.assertEqual(wish.names(), list(names))
            self.assertEqual(wish.needed(), needed)
            self.assertEqual(repr(wish), f"Wish({' '.join(tokens)})")

    def test_each_class(self):
        never = Never("ba", "b")
        self.check(never, ["never:b,ba"], (), "ab")
        self.check(Blocks("c"), ["blocks:c"], (), "c")
        self.check(Behind("za", never), ["never:b,ba", "behind:za"], (), "abz")
        self.check(Behind(part=never, word="z"), ["never:b,ba", "behind:z"], (), "abz")
        self.check(Both(never, Named("x")), ["never:b,ba", "x", "both"], ("x",), "ab")
        self.check(Both(other=never, one=Named("x")), ["x", "never:b,ba", "both"], ("x",), "ab")
        self.check(Either(Named("x"), never), ["x", "never:b,ba", "either"], ("x",), "ab")
        self.check(Either(other=Named("x"), one=never), ["never:b,ba", "x", "either"], ("x",), "ab")
        self.check(Named(name="calm"), ["calm"], ("calm",))
        for made in (Never, Blocks, Behind, Both, Either, Named):
            self.assertTrue(issubclass(made, Wish))

    def test_words_ascending_and_once_each(self):
        self.check(Never("b", "a", "b", "a"), ["never:a,b"], (), "ab")
        self.check(Blocks("ba", "b", "aab", "ab"), ["blocks:aab,ab,b,ba"], (), "ab")
        self.check(Blocks("zzzzzz"), ["blocks:zzzzzz"], (), "z")
        self.check(Never("b", "aa", "a", "ab"), ["never:a,aa,ab,b"], (), "ab")

    def test_signs(self):
        one, other, third = Never("a"), Blocks("b"), Named("x")
        self.check(one & other, ["never:a", "blocks:b", "both"], (), "ab")
        self.check(one | other, ["never:a", "blocks:b", "either"], (), "ab")
        self.check(one & other | third, ["never:a", "blocks:b", "both", "x", "either"], ("x",), "ab")
        self.check(one & (other | third), ["never:a", "blocks:b", "x", "either", "both"], ("x",), "ab")
        self.assertIsInstance(one & other, Both)
        self.assertIsInstance(one | other, Either)
        self.assertEqual(repr(one & one), "Wish(never:a never:a both)")

    def test_names_and_letters_that_are_needed(self):
        wish = Named("zz") & Named("k") | Named("zz") & Behind("dca", Never("b", "ab"))
        self.check(wish, ["zz", "k", "both", "zz", "never:ab,b", "behind:dca", "both", "either"], ("k", "zz"), "abcd")
        self.check(Named("never") | Named("blocks"), ["never", "blocks", "either"], ("blocks", "never"))

    def test_nothing_changes_a_wish(self):
        wish = Either(Never("a"), Behind("b", Named("x")))
        part = Never("a", "b")
        tokens = ["never:a", "x", "behind:b", "either"]
        found = wish.tokens()
        found.append("both")
        wish.names().append("y")
        part.tokens().clear()
        for other in (wish & part, wish | part, part & wish, Behind("c", wish)):
            other.tokens().clear()
            other.names().clear()
            other.needed()
            other.compiled("abc", {"x": part.compiled("abc")})
        self.check(wish, tokens, ("x",), "ab")
        self.check(part, ["never:a,b"], (), "ab")

    def test_equal_tokens(self):
        some = [Never("a"), Never("a", "b"), Blocks("a"), Named("a"), Behind("a", Never("a")), Never("a") & Named("a"),
                Named("a") & Never("a"), Never("a") | Named("a"), Never("a") & (Never("a") & Never("a")),
                Never("a") & Never("a") & Never("a"), Behind("aa", Never("a")), Behind("a", Behind("a", Never("a")))]
        for at, one in enumerate(some):
            for late, other in enumerate(some):
                self.assertIs(one == other, at == late)
                self.assertIs(one != other, at != late)
            self.assertEqual(one, read_wish(one.text()))
            for value in [*NOTHINGS, *NUMBERS, one.text(), one.tokens()]:
                self.assertIs(one == value, False)
        self.assertEqual(Never("b", "a"), Never("a", "b", "a"))

    def test_more_than_twenty_tokens(self):
        wish = Never("a")
        for _ in range(30):
            wish = wish & Never("a")
        self.assertEqual(wish.tokens(), ["never:a"] + ["never:a", "both"] * 30)
        self.assertEqual(wish.compiled("ab"), Never("a").compiled("ab"))


class RefusedTest(unittest.TestCase):
    """Wrong words and names."""

    def test_wrong_words(self):
        for value in NO_PARTS:
            for made in (Never, Blocks):
                raised(self, InvalidWord, {"given": value}, made, value)
                raised(self, InvalidWord, {"given": value}, made, "a", value, "A")
                raised(self, InvalidWord, {"given": value}, made, "a", "b", "a", "b", value)
            raised(self, InvalidWord, {"given": value}, Behind, value, Never("a"))

    def test_too_few_and_too_many_words(self):
        for made in (Never, Blocks):
            raised(self, InvalidWord, {"given": ""}, made)
            raised(self, InvalidWord, {"given": ""}, made, "a", "b", "c", "d", "e")
            raised(self, InvalidWord, {"given": ""}, made, "a", "a", "a", "a", "a")
            self.assertEqual(len(made("a", "b", "c", "d").tokens()), 1)
            self.assertEqual(len(made("a", "a", "a", "a").tokens()), 1)

    def test_names(self):
        for value in NAMES:
            self.assertIs(is_name(value), True)
            self.assertEqual(Named(value).names(), [value])
        for value in NO_NAMES:
            self.assertIs(is_name(value), False)
            raised(self, InvalidName, {"given": value}, Named, value)
        self.assertIs(is_name(value="abc"), True)


class ReadTest(unittest.TestCase):
    """Texts."""

    def refused(self, text, at):
        raised(self, InvalidWish, {"at": at}, read_wish, text)

    def test_each_form(self):
        made = {"never:a": Never("a"), "blocks:ab,b": Blocks("ab", "b"), "never:a behind:b": Behind("b", Never("a")),
                "x": Named("x"), "x never:a both": Both(Named("x"), Never("a")),
                "x never:a either": Either(Named("x"), Never("a")), "never": Named("never"),
                "a b c either both": Named("a") & (Named("b") | Named("c")),
                "a b both c either": Named("a") & Named("b") | Named("c")}
        for text, wish in made.items():
            found = read_wish(text)
            self.assertEqual(found, wish)
            self.assertIs(type(found), type(wish))
            self.assertEqual(found.text(), text)
        self.assertEqual(read_wish(text="x").tokens(), ["x"])

    def test_words_in_any_order_and_several_times(self):
        for text, wanted in (("never:b,a", "never:a,b"), ("blocks:b,ab,b,b", "blocks:ab,b"),
                             ("never:zz,zz,zz,zz x both", "never:zz x both"), ("never:ba,b,ab,aab", "never:aab,ab,b,ba"),
                             ("blocks:b,a blocks:a,b either", "blocks:a,b blocks:a,b either")):
            self.assertEqual(read_wish(text).text(), wanted)
            self.assertEqual(read_wish(text), read_wish(wanted))

    def test_wrong_tokens(self):
        wrong = ["never:", "never:,", "never:a,", "never:,a", "never:a,,b", "never:A", "never:a:b", "never:a,b,c,d,e",
                 "never:a,a,a,a,a", "never:aaaaaaa", "never:a\n", "blocks:", "blocks:a,abcdefg", "blocks:1", "Never:a",
                 "never;a", "behind:", "behind:a,b", "behind:abcdefg", "behind:A", "behind", "both:", "both:a",
                 "either:a", "name:a", ":", ":a", "a:", "abcdefghi", "Abc", "a1", "both\n", "x\n", "\n", "a,b", "-"]
        for token in wrong:
            if token != "behind":
                self.refused(token, 0)
                self.refused(token + " never:a", 0)
                self.refused("never:a " + token, 1)
                self.refused("x never:a both " + token + " both both", 3)
        self.assertEqual(read_wish("behind").names(), ["behind"])

    def test_empty_tokens(self):
        for text, at in ((" ", 0), (" a", 0), ("a ", 1), ("a  b both", 1), ("a b  both", 2), ("a b both ", 3),
                         ("  ", 0), ("never:a  ", 1)):
            self.refused(text, at)

    def test_too_few_wishes(self):
        for text, at in (("both", 0), ("either", 0), ("behind:a", 0), ("a both", 1), ("never:a both", 1),
                         ("a either b", 1), ("a b both both", 3), ("a b either c both either", 5),
                         ("a behind:b both", 2), ("both X", 0), ("a X both", 1)):
            self.refused(text, at)
        self.assertEqual(len(read_wish("a behind:b behind:b").tokens()), 3)

    def test_several_wishes(self):
        for text in ("a b", "a b c both", "never:a blocks:b", "a b behind:a", " ".join(["a"] * 20)):
            self.refused(text, -1)

    def test_no_strings(self):
        for value in [*NOTHINGS, *NUMBERS, ""]:
            self.refused(value, -1)

    def test_twenty_tokens(self):
        text = "a" + " behind:b" * 19
        self.assertEqual(len(read_wish(text).tokens()), 20)
        self.refused(text + " behind:b", 20)
        self.refused(text + " ", 20)
        self.refused(text + " behind:b B", 20)
        self.refused(" ".join(["a"] * 21), 20)
        self.refused(" ".join(["a"] * 10 + ["both"] * 9 + ["x", "both"]), 20)
        self.refused(" ".join(["a"] * 19 + ["B", "a"]), 19)
        self.refused(" ".join(["a"] * 10 + ["both"] * 10), 19)
        self.refused("a" * 4000, 0)
        self.refused(" ".join(["a"] * 2000), 20)

    def test_the_example(self):
        self.refused("never:a both", 1)

    def test_random_texts_come_back(self):
        chance = random.Random(200)
        for _ in range(200):
            stack = []
            for _ in range(chance.randrange(1, 20)):
                word = "".join(chance.choice("abz") for _ in range(chance.randrange(1, 7)))
                part = chance.choice([Never, Blocks, Named, Behind, Both, Either])
                if part in (Never, Blocks):
                    stack.append(part(*[word[at:] for at in range(min(4, len(word)))]))
                elif part is Named:
                    stack.append(part(word))
                elif part is Behind and stack:
                    stack.append(part(word, stack.pop()))
                elif part in (Both, Either) and len(stack) > 1:
                    stack.append(part(stack.pop(), stack.pop()))
            for wish in stack:
                found = read_wish(wish.text())
                self.assertEqual((found, found.tokens(), found.names(), found.needed()),
                                 (wish, wish.tokens(), wish.names(), wish.needed()))


if __name__ == "__main__":
    unittest.main()
