"""The class Lasso of lastslip/words.py."""

import unittest

from lastslip.errors import InvalidWord
from lastslip.words import Lasso

from samples import NOTHINGS, NUMBERS, WRONG_STRINGS, raised, writings

FAR = 10 ** 18
SHORT = writings("ab", 3, 4) + writings("abc", 1, 3)
NO_STRINGS = [*NOTHINGS, *NUMBERS, *WRONG_STRINGS]
NO_INDEXES = [None, True, False, -1, FAR + 1, 10 ** 29, "", "0", "a", (), [], (0,), [0], [[1], None]]


def first_letters(prefix, loop, many):
    return (prefix + loop * many)[:many]


class ShortestTest(unittest.TestCase):
    def test_the_document(self):
        self.assertEqual([str(Lasso("ab", "abab")), Lasso("b", "ab") == Lasso.of_text("(ba)"),
                          str("a" + Lasso.of_text("(b)")), str(Lasso.of_text("ab(c)") >> 1)],
                         ["(ab)", True, "a(b)", "b(c)"])
        raised(self, InvalidWord, {"given": ""}, Lasso, "a", "")

    def test_powers_and_ends(self):
        for prefix, loop, short in [("", "aaa", "(a)"), ("", "abab", "(ab)"), ("", "abaab", "(abaab)"),
                                    ("a", "ba", "(ab)"), ("ba", "ba", "(ba)"), ("aba", "ba", "(ab)"),
                                    ("cab", "abab", "c(ab)"), ("xb", "ab", "x(ba)"), ("bbb", "b", "(b)"),
                                    ("abcabc", "abc", "(abc)"), ("zbcabc", "abc", "z(bca)"), ("ab", "c", "ab(c)")]:
            lasso = Lasso(prefix, loop)
            self.assertEqual(str(lasso), short)
            self.assertEqual(f"{lasso.prefix}({lasso.loop})", short)

    def test_nothing_shorter_writes_the_same_word(self):
        # Two infinite words with loops of at most 4 letters are equal if 3 + 3 + 4 * 4 letters are.
        least = {}
        for prefix, loop in SHORT:
            word = first_letters(prefix, loop, 30)
            lengths = least.setdefault(word, [len(prefix), len(loop)])
            least[word] = [min(lengths[0], len(prefix)), min(lengths[1], len(loop))]
        for prefix, loop in SHORT:
            lasso = Lasso(prefix, loop)
            word = first_letters(prefix, loop, 30)
            self.assertEqual([len(lasso.prefix), len(lasso.loop)], least[word])
            self.assertEqual(first_letters(lasso.prefix, lasso.loop, 30), word)

    def test_long_ones(self):
        most = Lasso.MOST
        self.assertEqual(str(Lasso("a" * most, "a" * most)), "(a)")
        self.assertEqual(str(Lasso("ba" * (most // 2), "ba" * (most // 2))), "(ba)")
        rare = "a" * (most - 1) + "b"
        self.assertEqual(Lasso("", rare).loop, rare)
        self.assertEqual(Lasso(rare, rare).loop, rare)
        self.assertEqual(Lasso("b", rare).loop, "b" + "a" * (most - 1))
        self.assertEqual(Lasso("c" * most, "b").prefix, "c" * most)

    def test_most(self):
        self.assertEqual(Lasso.MOST, 10000)
        self.assertEqual(Lasso("a", "b").MOST, 10000)


class LettersTest(unittest.TestCase):
    def test_letter_at_and_index(self):
        for prefix, loop in SHORT:
            lasso = Lasso(prefix, loop)
            word = first_letters(prefix, loop, 20)
            self.assertEqual("".join(lasso.letter_at(at) for at in range(20)), word)
            self.assertEqual("".join(lasso[at] for at in range(20)), word)
            far = loop[(FAR - len(prefix)) % len(loop)]
            self.assertEqual([lasso.letter_at(FAR), lasso[FAR]], [far, far])

    def test_start(self):
        for prefix, loop in SHORT:
            for many in range(12):
                self.assertEqual(Lasso(prefix, loop).start(many), first_letters(prefix, loop, many))
        self.assertEqual(Lasso("b", "ca").start(4000), first_letters("b", "ca", 4000))
        self.assertEqual(Lasso("b" * 5000, "c").start(many=4000), "b" * 4000)

    def test_letters(self):
        self.assertEqual(Lasso("cab", "b").letters(), "abc")
        self.assertEqual(Lasso("", "zzy").letters(), "yz")
        self.assertEqual(Lasso("bb", "b").letters(), "b")

    def test_wrong_indexes(self):
        lasso = Lasso("ab", "c")
        for value in NO_INDEXES:
            raised(self, InvalidWord, {"given": value}, lasso.letter_at, value)
            raised(self, InvalidWord, {"given": value}, lambda at: lasso[at], value)
            raised(self, InvalidWord, {"given": value}, lambda many: lasso >> many, value)
        for value in [*NO_INDEXES, 4001, FAR]:
            raised(self, InvalidWord, {"given": value}, lasso.start, value)
        self.assertEqual([lasso[0], lasso[FAR], lasso.start(0), len(lasso.start(4000))], ["a", "c", "", 4000])

    def test_it_has_no_end(self):
        self.assertRaises(TypeError, list, Lasso("a", "b"))


class WritingTest(unittest.TestCase):
    def test_str_and_repr(self):
        self.assertEqual([str(Lasso("ab", "ba")), repr(Lasso("ab", "ba"))], ["ab(ba)", "Lasso('ab', 'ba')"])
        self.assertEqual([str(Lasso("b", "ab")), repr(Lasso("b", "ab"))], ["(ba)", "Lasso('', 'ba')"])

    def test_of_text(self):
        for prefix, loop in SHORT:
            lasso = Lasso.of_text(f"{prefix}({loop})")
            self.assertEqual([lasso.prefix, lasso.loop], [Lasso(prefix, loop).prefix, Lasso(prefix, loop).loop])
            self.assertEqual(Lasso.of_text(str(lasso)), lasso)
        self.assertEqual(str(Lasso.of_text(text="b(abab)")), "(ba)")

    def test_wrong_texts(self):
        for text in ["", "a", "()", "a()", "(", ")", ")(", "a)b(", "(a", "a)", "ab(ba", "abba)", "((a)", "(a))",
                     "((a))", "a(b)(c)", "a(b)c", " (a)", "(a) ", "a (b)", "a( b)", "a(b )", "(A)", "A(a)",
                     "(a)\n", "a[b]", "a(b]", "(1)", *NO_STRINGS]:
            raised(self, InvalidWord, {"given": text}, Lasso.of_text, text)

    def test_lengths_of_texts(self):
        prefix = "a" * 9999 + "b"
        loop = "c" * 9999 + "d"
        self.assertEqual(Lasso.of_text(f"{prefix}({loop})"), Lasso(prefix, loop))
        for text in [f"a{prefix}({loop})", f"{prefix}(c{loop})", f"a{prefix}(c{loop})"]:
            raised(self, InvalidWord, {"given": text}, Lasso.of_text, text)


class RefusedTest(unittest.TestCase):
    def test_wrong_values(self):
        long = "a" * 10001
        for value in [*NO_STRINGS, long]:
            raised(self, InvalidWord, {"given": value}, Lasso, value, "a")
            for loop in (None, "", "A"):
                raised(self, InvalidWord, {"given": value}, Lasso, value, loop)
        for value in [*NO_STRINGS, long, ""]:
            raised(self, InvalidWord, {"given": value}, Lasso, "a", value)
            raised(self, InvalidWord, {"given": value}, Lasso, prefix="", loop=value)

    def test_lengths(self):
        full = "ab" * 5000
        self.assertEqual(Lasso(full, "c").prefix, full)
        self.assertEqual(Lasso("", full[:-1] + "c").loop, full[:-1] + "c")
        raised(self, InvalidWord, {"given": full + "c"}, Lasso, full + "c", "a")
        # The words that are passed count, not the shortest ones.
        raised(self, InvalidWord, {"given": full + "a"}, Lasso, "", full + "a")
        raised(self, InvalidWord, {"given": "a" * 10001}, Lasso, "a" * 10001, "a")


class AddedTest(unittest.TestCase):
    def test_words_in_front(self):
        for prefix, loop in writings("ab", 2, 3):
            lasso = Lasso(prefix, loop)
            kept = str(lasso)
            for word in ["", "a", "b", "ab", "bba", "c"]:
                longer = word + lasso
                self.assertEqual(longer, Lasso(word + prefix, loop))
                self.assertEqual(longer.start(20), first_letters(word + prefix, loop, 20))
            self.assertEqual(str(lasso), kept)

    def test_wrong_words(self):
        lasso = Lasso("a", "b")
        for value in [*NO_STRINGS, "a" * 201]:
            raised(self, InvalidWord, {"given": value}, lambda word: word + lasso, value)
        self.assertEqual(("a" * 200 + lasso).prefix, "a" * 201)

    def test_too_long_together(self):
        lasso = Lasso("c" * 9990, "b")
        self.assertEqual(len(("a" * 10 + lasso).prefix), 10000)
        raised(self, InvalidWord, {"given": "a" * 11 + "c" * 9990}, lambda word: word + lasso, "a" * 11)
        # Only the kept prefix counts: these 10000 letters are no prefix but a part of the loop.
        self.assertEqual(str("a" + Lasso("b" * 10000, "b")), "a(b)")
        raised(self, InvalidWord, {"given": "B"}, lambda word: word + lasso, "B")

    def test_letters_taken_away(self):
        for prefix, loop in writings("ab", 3, 3):
            lasso = Lasso(prefix, loop)
            kept = str(lasso)
            for many in range(10):
                late = lasso >> many
                self.assertEqual(late.start(20), first_letters(prefix, loop, 40)[many:many + 20])
                self.assertEqual(late, Lasso(late.prefix, late.loop))
            far = lasso >> FAR
            self.assertEqual([far[at] for at in range(7)],
                             [loop[(FAR + at - len(prefix)) % len(loop)] for at in range(7)])
            self.assertEqual(str(lasso), kept)


class EqualTest(unittest.TestCase):
    def test_equal_words(self):
        made = [(first_letters(prefix, loop, 40), Lasso(prefix, loop)) for prefix, loop in writings("ab", 3, 3)]
        for word, lasso in made:
            for other, late in made:
                self.assertIs(lasso == late, word == other)
                self.assertIs(lasso != late, word != other)
                if word == other:
                    self.assertEqual([lasso.prefix, lasso.loop], [late.prefix, late.loop])

    def test_one_letter_changed(self):
        text = "abacab"
        for at in range(6):
            changed = text[:at] + "z" + text[at + 1:]
            self.assertFalse(Lasso(text[:3], text[3:]) == Lasso(changed[:3], changed[3:]))
            self.assertTrue(Lasso(text[:3], text[3:]) != Lasso(changed[:3], changed[3:]))

    def test_other_values(self):
        lasso = Lasso("a", "b")
        for value in [None, True, 0, "a(b)", ("a", "b"), ["a", "b"], "Lasso('a', 'b')"]:
            self.assertIs(lasso == value, False)
            self.assertIs(lasso != value, True)


if __name__ == "__main__":
    unittest.main()
