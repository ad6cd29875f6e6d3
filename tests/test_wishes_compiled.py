"""The automata of wishes in lastslip/wishes.py."""

import random
import unittest

from lastslip.automata import Automaton
from lastslip.errors import DifferentAlphabets, InvalidName, StrangeLetter, TooMany, UnknownName
from lastslip.joins import behind, both, either
from lastslip.least import least
from lastslip.papers import harmless
from lastslip.wishes import Behind, Blocks, Named, Never, read_wish

from oracles import real_blocks, real_never, wish_has
from samples import raised, really_accepts, some_automata, strings, writings, written

SHORT = writings("ab", 2, 3)
ALL = written("ab", 1, 0, "0a0 0b0")
WORDS = [["a"], ["b"], ["ab"], ["aa"], ["aba"], ["abab"], ["aaaaaa"], ["abaaba"], ["a", "b"], ["a", "ab"], ["ab", "b"],
         ["aa", "bb"], ["ab", "ba"], ["a", "bab"], ["aab", "ab", "b"], ["a", "aa", "aaa", "aaaa"], ["aba", "bab"],
         ["ba", "bab", "babb", "bb"], ["ababab", "bababa", "aabbaa", "bbaabb"], ["b", "abbb"], ["aabaab", "aab"]]


def join(form, words):
    return form + ":" + ",".join(words)


class OneTest(unittest.TestCase):
    """Wishes of one token."""

    def test_never(self):
        for alphabet in ("ab", "abc", "abz"):
            for words in WORDS:
                found = Never(*words).compiled(alphabet)
                self.assertEqual(found, real_never(words, alphabet))
                self.assertEqual(found.initial, 0)
                self.assertIs(found.is_deterministic, True)

    def test_blocks(self):
        for alphabet in ("ab", "abc", "abz"):
            for words in WORDS:
                found = Blocks(*words).compiled(alphabet)
                self.assertEqual(found, real_blocks(words, alphabet))
                self.assertEqual(found.initial, 0)

    def test_written_out(self):
        for text, alphabet, wanted in [
                ("never:a", "a", written("a", 1, 0, "0a0!")),
                ("never:a", "ab", written("ab", 1, 0, "0a0! 0b0")),
                ("never:b", "abc", written("abc", 1, 0, "0a0 0b0! 0c0")),
                ("never:ab", "ab", written("ab", 2, 0, "0a1 0b0 1a1 1b0!")),
                ("never:aba", "ab", written("ab", 3, 0, "0a1 0b0 1a1 1b2 2a1! 2b0")),
                # The word a is an end of the words that end in it.
                ("never:a,bab", "ab", written("ab", 3, 0, "0a0! 0b1 1a2! 1b1 2a0! 2b1!")),
                # The states are "", b and ba: the word b is a state, too.
                ("never:bab,b", "ab", written("ab", 3, 0, "0a0 0b1! 1a2 1b1! 2a0 2b1!")),
                ("blocks:a", "ab", written("ab", 1, 0, "0a0 0b0!")),
                ("blocks:a", "a", written("a", 1, 0, "0a0")),
                ("blocks:ab", "ab", written("ab", 2, 0, "0a0! 0a1 0b0! 1a0! 1b0")),
                ("blocks:a,ab", "ab", written("ab", 2, 0, "0a0 0a1 0b0! 1a0! 1b0")),
                ("blocks:aa,b", "abc", written("abc", 2, 0, "0a0! 0a1 0b0 0c0! 1a0 1b0! 1c0!"))]:
            self.assertEqual(read_wish(text).compiled(alphabet), wanted)
            self.assertEqual(read_wish(text).compiled(table=None, alphabet=alphabet), wanted)
            self.assertEqual(read_wish(text).compiled(alphabet, {"x": written("c", 1, 0, "0c0")}), wanted)

    def test_words_of_six_letters(self):
        words = ["abbaba", "bababa", "aaabbb", "baabab"]
        for form, real in (("never", real_never), ("blocks", real_blocks)):
            found = read_wish(join(form, words)).compiled("ab")
            self.assertEqual(found, real(words, "ab"))
            # The empty word, and five prefixes of each word; two words begin with a, two with b and with ba.
            self.assertEqual(found.size, 1 + 4 * 5 - 3)

    def test_the_example(self):
        wanted = read_wish("blocks:a blocks:b either").compiled("ab")
        self.assertEqual([repr(wanted), harmless(wanted).told(), least(wanted).transitions()],
                         ["Automaton(3 states, 8 transitions)", "harmful",
                          [(0, "a", 0, "safe"), (0, "b", 0, "slip"), (0, "b", 1, "slip"), (1, "a", 0, "slip"),
                           (1, "a", 1, "slip"), (1, "b", 1, "safe")]])


class JoinedTest(unittest.TestCase):
    """Wishes of several tokens, with names from a table."""

    def test_behind_both_and_either(self):
        one, other = Never("ab"), Blocks("a", "ba")
        first, second = one.compiled("ab"), other.compiled("ab")
        for wish, wanted in [(one & other, both(first, second)), (one | other, either(first, second)),
                             (Behind("bab", other), behind("bab", second)),
                             (Behind("a", one & other) | other, either(behind("a", both(first, second)), second)),
                             (other & Behind("b", one | other), both(second, behind("b", either(first, second))))]:
            self.assertEqual(wish.compiled("ab"), wanted)
            self.assertEqual(read_wish(wish.text()).compiled("ab"), wanted)

    def test_names_from_a_table(self):
        for one, other in zip(some_automata(210, 12), some_automata(211, 12)):
            table = {"x": one, "never": other, "other": written("ab", 1, 0, "0a0 0b0")}
            kept = dict(table)
            self.assertEqual(Named("x").compiled("ab", table), one)
            self.assertEqual(Named("never").compiled(alphabet="ab", table=table), other)
            self.assertEqual(read_wish("x never either").compiled("ab", table), either(one, other))
            self.assertEqual(read_wish("never x both").compiled("ab", table), both(other, one))
            self.assertEqual(read_wish("never behind:ab x both").compiled("ab", table), both(behind("ab", other), one))
            self.assertEqual(table, kept)

    def test_strange_letters(self):
        for text, alphabet, letter in [("never:c", "ab", "c"), ("never:ab", "a", "b"), ("blocks:ba,d,c", "b", "a"),
                                       ("never:z blocks:y both", "ab", "y"), ("never:a behind:cab", "ab", "c"),
                                       ("never:zc,b blocks:da both", "ab", "c")]:
            raised(self, StrangeLetter, {"given": letter}, read_wish(text).compiled, alphabet)
            # Strange letters come first.
            late = read_wish(text + " x both y either")
            raised(self, StrangeLetter, {"given": letter}, late.compiled, alphabet)
            raised(self, StrangeLetter, {"given": letter}, late.compiled, alphabet, {"x": Blocks("a").compiled("a")})
        # The letters of names are not needed.
        self.assertEqual(Named("xyz").compiled("a", {"xyz": written("a", 1, 0, "0a0")}).size, 1)

    def test_strange_letters_come_ahead_of_too_many_states(self):
        wish = read_wish("x y either" + " behind:aaaaaa" * 10 + " never:c both")
        raised(self, StrangeLetter, {"given": "c"}, wish.compiled, "ab")
        raised(self, StrangeLetter, {"given": "c"}, wish.compiled, "ab", {"x": real_never(["a"], "ab")})

    def test_unknown_names(self):
        one = written("ab", 1, 0, "0a0 0b0!")
        for table in (None, {}, {"y": one}, {"xx": one, "X": one}):
            raised(self, UnknownName, {"name": "x"}, Named("x").compiled, "ab", table)
            raised(self, UnknownName, {"name": "x"}, read_wish("x a both").compiled, "ab", table)
            raised(self, UnknownName, {"name": "x"}, read_wish("never:a x both a either").compiled, "ab", table)
        raised(self, UnknownName, {"name": "z"}, read_wish("x z both a y both both").compiled, "ab", {"x": one})
        raised(self, UnknownName, {"name": "y"}, read_wish("x z both a y both both").compiled, "ab",
               {"x": one, "z": one, "a": one})

    def test_too_many_states(self):
        # Each word put in front adds a state for each letter, and one for what begins otherwise.
        text = "never:a" + " behind:aaaaaa" * 9
        self.assertEqual(read_wish(text).compiled("ab").size, 64)
        raised(self, TooMany, {"most": 65}, read_wish(text + " behind:a").compiled, "ab")
        text = "never:aa" + " behind:aaaaaa" * 9
        self.assertEqual(read_wish(text).compiled("ab").size, 65)
        raised(self, TooMany, {"most": 65}, read_wish("never:aaa" + " behind:aaaaaa" * 9).compiled, "ab")
        self.assertEqual(read_wish("x behind:aa").compiled("ab", {"x": behind("a" * 60, ALL)}).size, 65)
        raised(self, TooMany, {"most": 65}, read_wish("x behind:aa").compiled, "ab", {"x": behind("a" * 61, ALL)})
        # With one letter there is no state for all other letters.
        self.assertEqual(read_wish("never:a" + " behind:aaaa" * 16).compiled("a").size, 65)
        raised(self, TooMany, {"most": 65}, read_wish("never:aa" + " behind:aaaa" * 16).compiled, "a")

    def test_too_many_states_by_both_and_either(self):
        small, great = real_never(["a" * 5], "ab"), real_never(["b" * 6, "b" * 6 + "a" * 7], "ab")
        self.assertEqual((small.size, great.size), (5, 13))
        self.assertEqual(read_wish("x y either").compiled("ab", {"x": small, "y": great}).size, 19)
        for one, other, size in ((32, 32, 65), (1, 63, 65), (63, 1, 65)):
            table = {"x": real_never(["a" * one], "ab"), "y": real_never(["b" * other], "ab")}
            self.assertEqual(read_wish("x y either").compiled("ab", table).size, size)
            table["y"] = real_never(["b" * (other + 1)], "ab")
            raised(self, TooMany, {"most": 65}, read_wish("x y either").compiled, "ab", table)
        ring = {many: Automaton.deterministic("ab", [[((at + 1) % many, "safe")] * 2 for at in range(many)])
                for many in (5, 6, 11, 13)}
        self.assertEqual(read_wish("x y both").compiled("ab", {"x": ring[5], "y": ring[13]}).size, 65)
        raised(self, TooMany, {"most": 65}, read_wish("x y both").compiled, "ab", {"x": ring[6], "y": ring[11]})

    def test_too_many_states_on_the_way(self):
        # The product with what accepts nothing would be small again.
        table = {"x": behind("a" * 31, ALL), "y": written("ab", 1, 0, "0a0! 0b0!")}
        self.assertEqual(table["x"].size, 33)
        self.assertEqual(read_wish("x y both").compiled("ab", table).size, 33)
        raised(self, TooMany, {"most": 65}, read_wish("x x either y both").compiled, "ab", table)
        raised(self, TooMany, {"most": 65}, read_wish("y x x either both").compiled, "ab", table)
        self.assertEqual(read_wish("x y both y either y both").compiled("ab", table).size, 34)

    def test_other_errors(self):
        raised(self, InvalidName, {"given": "both"}, Named, "both")
        raised(self, DifferentAlphabets, {}, read_wish("x never:a both").compiled, "ab", {"x": written("a", 1, 0, "0a0")})


class AcceptedTest(unittest.TestCase):
    """What the automata of wishes accept."""

    def check(self, text, alphabet, lassos, table=None, texts=None):
        automaton = read_wish(text).compiled(alphabet, table)
        answers = []
        for prefix, loop in lassos:
            answers.append(wish_has(text, prefix, loop, texts))
            self.assertIs(really_accepts(automaton, prefix, loop), answers[-1], (text, prefix, loop))
        return answers

    def test_never_and_blocks(self):
        answers = []
        for words in WORDS:
            for form in ("never", "blocks"):
                answers += self.check(join(form, words), "ab", SHORT)
                answers += self.check(join(form, words), "abc", writings("abc", 1, 2))
        self.assertGreater(min(answers.count(True), answers.count(False)), 500)

    def test_longer_lassos(self):
        chance = random.Random(212)
        answers = []
        for words in WORDS:
            for _ in range(6):
                loop = "".join(chance.choice([*words, "a", "b"]) for _ in range(chance.randrange(2, 8)))
                block = "".join(chance.choice(words) for _ in range(chance.randrange(2, 8)))
                turn = chance.randrange(len(block))
                prefix = "".join(chance.choice("ab") for _ in range(12))
                lassos = [(prefix, loop), (prefix, block), ("", block[turn:] + block[:turn])]
                for form in ("never", "blocks"):
                    answers += self.check(join(form, words), "ab", lassos)
        self.assertGreater(min(answers.count(True), answers.count(False)), 100)

    def test_joined(self):
        texts = {"x": "never:ab", "y": "blocks:a,bb", "z": "x y either"}
        table = {}
        for name, text in texts.items():
            table[name] = read_wish(text).compiled("ab", table)
        answers = []
        for text in ("x", "z", "never:a behind:b", "never:a behind:ab behind:b", "blocks:ab behind:aab", "x behind:bab",
                     "x y both", "x y either", "z never:a both", "z never:bb either", "z behind:a x both",
                     "x behind:a y behind:b either", "x behind:ab y behind:a both", "never:a never:b both",
                     "never:a never:b either", "blocks:ab blocks:ba either behind:bb", "z z both z either",
                     "never:aaaa never:bbbb both blocks:aa,b either x both"):
            answers += self.check(text, "ab", writings("ab", 3, 3), table, texts)
        self.assertGreater(min(answers.count(True), answers.count(False)), 500)

    def test_random_wishes(self):
        chance = random.Random(213)
        answers = []
        for _ in range(60):
            wish = Never(*chance.choice(WORDS[:10]))
            for _ in range(chance.randrange(1, 4)):
                other = chance.choice([Never, Blocks])(*chance.choice(WORDS[:10]))
                wish = chance.choice([wish & other, wish | other, other & wish, other | wish,
                                      Behind(chance.choice(strings("ab", 1, 2)), wish)])
            try:
                answers += self.check(wish.text(), "ab", SHORT)
            except TooMany:
                pass
        self.assertGreater(min(answers.count(True), answers.count(False)), 500)


class LeastTest(unittest.TestCase):
    """The least automata of wishes."""

    def test_never_and_blocks(self):
        for text, wanted in [
                ("never:a", "0a0! 0b0"), ("blocks:b", "0a0! 0b0"), ("blocks:bb", "0a0! 0b0"), ("never:a,bab", "0a0! 0b0"),
                ("never:ab", "0a0 0b0! 0b1! 1a0! 1a1! 1b1"), ("never:ba", "0a0 0b0! 0b1! 1a0! 1a1! 1b1"),
                ("blocks:ab", "0a1 0b0! 0b1! 1a0! 1a1! 1b0"), ("blocks:ba", "0a1 0b0! 0b1! 1a0! 1a1! 1b0"),
                ("never:aa,bb", "0a1 0b0! 0b1! 1a0! 1a1! 1b0"), ("blocks:abab", "0a1 0b0! 0b1! 1a0! 1a1! 1b0"),
                ("never:aa", "0a1 0b0 1a0! 1a1! 1b0"), ("blocks:ab,b", "0a1 0b0 1a0! 1a1! 1b0"),
                ("never:bb", "0a0 0b1 1a0 1b0! 1b1!"), ("blocks:a,ab", "0a0 0b1 1a0 1b0! 1b1!"),
                ("never:a,b", "0a0! 0b0!"), ("blocks:a,b", "0a0 0b0"),
                ("blocks:aa,b", "0a1 0b0 1a0 1b0! 1b1!"),
                ("never:aba", "0a1 0b0 1a1 1b2 2a0! 2a1! 2a2! 2b0")]:
            size = 1 + max(int(part[0]) for part in wanted.split())
            self.assertEqual(least(read_wish(text).compiled("ab")), written("ab", size, 0, wanted), text)

    def test_other_wishes(self):
        for text, wanted in [("never:a never:b both", "0a0! 0b0!"),
                             ("never:a never:b either", "0a0 0b0! 0b1! 1a0! 1a1! 1b1"),
                             ("blocks:a blocks:b either", "0a0 0b0! 0b1! 1a0! 1a1! 1b1"),
                             ("blocks:a,b behind:a", "0a1! 0b2! 1a1 1b1 2a2! 2b2!"),
                             ("never:a behind:a", "0a1! 0b2! 1a1! 1b1 2a2! 2b2!")]:
            found = least(read_wish(text).compiled("ab"))
            self.assertEqual(found, written("ab", found.size, 0, wanted), text)
            for prefix, loop in SHORT:
                self.assertIs(really_accepts(found, prefix, loop), wish_has(text, prefix, loop))

    def test_one_set_has_one_least_automaton(self):
        for one, other in [("never:ab", "never:ba"), ("blocks:ab", "blocks:ba"), ("never:aa,bb", "blocks:ab"),
                           ("never:aa", "blocks:ab,b"), ("never:a", "blocks:b"), ("never:a,b", "never:a blocks:a both"),
                           ("never:a blocks:a either", "never:ab")]:
            self.assertEqual(least(read_wish(one).compiled("ab")), least(read_wish(other).compiled("ab")))
        self.assertNotEqual(least(read_wish("never:a").compiled("ab")), least(read_wish("never:b").compiled("ab")))
        self.assertIsInstance(least(read_wish("never:a").compiled("ab")), Automaton)


if __name__ == "__main__":
    unittest.main()
