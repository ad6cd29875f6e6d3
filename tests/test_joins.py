"""lastslip/joins.py."""

import unittest
from itertools import permutations, product

from lastslip.automata import Automaton
from lastslip.errors import DifferentAlphabets, InvalidAlphabet, InvalidWord, StrangeLetter, TooMany
from lastslip.joins import behind, both, either, renamed

from samples import NOTHINGS, NUMBERS, WRONG_STRINGS, raised, really_accepts, some_automata, writings, written

SHORT = writings("ab", 2, 3)
ALL = Automaton.deterministic("ab", [[(0, "safe"), (0, "safe")]])


def ring(alphabet, size, initial=0):
    """A ring of so many states; only the step from the last one slips."""
    return Automaton.deterministic(alphabet, [[((at + 1) % size, "slip" if at == size - 1 else "safe")] * len(alphabet)
                                              for at in range(size)], initial=initial)


class BothTest(unittest.TestCase):
    def really_both(self, one, other):
        pairs = [(one.initial, other.initial)]
        rows = []
        for pair in pairs:
            for letter in one.alphabet:
                for first, second in product(one.moves(pair[0], letter), other.moves(pair[1], letter)):
                    late = (first[0], second[0])
                    if late not in pairs:
                        pairs.append(late)
                    rows.append((pair, letter, late, "safe" if (first[1], second[1]) == ("safe", "safe") else "slip"))
        order = sorted(pairs)
        rows = [(order.index(pair), letter, order.index(late), kind) for pair, letter, late, kind in rows]
        return Automaton(one.alphabet, len(order), rows, initial=order.index(pairs[0]))

    def test_all_transitions_and_words(self):
        for alphabet in ("ab", "b", "xyz"):
            automata = some_automata(110, 24, (alphabet,), (1, 2, 3))
            for one, other in zip(automata, automata[1:]):
                found = both(one, other)
                self.assertEqual(found, self.really_both(one, other))
                for prefix, loop in SHORT if alphabet == "ab" else writings(alphabet, 1, 1):
                    self.assertIs(really_accepts(found, prefix, loop),
                                  really_accepts(one, prefix, loop) and really_accepts(other, prefix, loop))

    def test_numbers(self):
        one = written("a", 3, 2, "0a0 1a0 2a1!")
        other = written("a", 2, 1, "0a1! 1a0")
        found = both(one, other)
        self.assertEqual((found.initial, found.transitions()),
                         (3, [(0, "a", 1, "slip"), (1, "a", 0, "safe"), (2, "a", 1, "slip"), (3, "a", 2, "slip")]))
        self.assertEqual(both(other=other, one=one), found)

    def test_too_many(self):
        self.assertEqual([both(ring("a", 5), ring("a", 13)).size, both(ring("ab", 13), ring("ab", 5)).size,
                          both(ring("ab", 64, 3), ring("ab", 32)).size, both(ring("ab", 65), ring("ab", 65)).size,
                          both(ring("ab", 65, 7), ring("ab", 65)).size], [65, 65, 64, 65, 65])
        for one, other in ((6, 11), (11, 6), (2, 33), (64, 65), (65, 64), (66 // 3, 3)):
            raised(self, TooMany, {"most": 65}, both, ring("ab", one), ring("ab", other))
        # States that cannot be reached together do not count.
        wide = Automaton.deterministic("ab", [[(0, "safe")] * 2] + [[(at, "slip")] * 2 for at in range(1, 65)])
        self.assertEqual(both(wide, wide).size, 1)


class EitherTest(unittest.TestCase):
    def test_all_transitions_and_words(self):
        for alphabet in ("ab", "b", "xyz"):
            automata = some_automata(111, 24, (alphabet,), (1, 2, 3))
            for one, other in zip(automata, automata[1:]):
                found = either(one, other)
                rows = [(source + 1, letter, target + 1, kind) for source, letter, target, kind in one.transitions()]
                more = 1 + one.size
                rows += [(source + more, letter, target + more, kind)
                         for source, letter, target, kind in other.transitions()]
                rows += [(0, letter, target, kind) for source, letter, target, kind in rows
                         if source in (1 + one.initial, more + other.initial)]
                self.assertEqual((found.alphabet, found.size, found.initial, found.transitions()),
                                 (alphabet, 1 + one.size + other.size, 0, sorted(rows)))
                for prefix, loop in SHORT if alphabet == "ab" else writings(alphabet, 1, 1):
                    self.assertIs(really_accepts(found, prefix, loop),
                                  really_accepts(one, prefix, loop) or really_accepts(other, prefix, loop))
        self.assertEqual(either(other=ALL, one=ring("ab", 2)), either(ring("ab", 2), ALL))

    def test_too_many(self):
        for one, other in ((63, 1), (1, 63), (32, 32)):
            self.assertEqual(either(ring("ab", one), ring("ab", other)).size, 65)
            raised(self, TooMany, {"most": 65}, either, ring("ab", one + 1), ring("ab", other))
            raised(self, TooMany, {"most": 65}, either, ring("ab", one), ring("ab", other + 1))
        raised(self, TooMany, {"most": 65}, either, ring("a", 65), ring("a", 65))

    def test_different_alphabets(self):
        for call in (both, either):
            for one, other in permutations(("a", "b", "ab", "ac", "abc"), 2):
                for size in (1, 65):
                    raised(self, DifferentAlphabets, {}, call, ring(one, size), ring(other, 65))


class BehindTest(unittest.TestCase):
    def really_behind(self, word, automaton):
        sink = len(word) + automaton.size
        rows = [(source + len(word), letter, target + len(word), kind)
                for source, letter, target, kind in automaton.transitions()]
        for at, due in enumerate(word):
            late = at + 1 if at + 1 < len(word) else len(word) + automaton.initial
            for letter in automaton.alphabet:
                rows.append((at, letter, late, "safe") if letter == due else (at, letter, sink, "slip"))
        if len(automaton.alphabet) > 1:
            rows += [(sink, letter, sink, "slip") for letter in automaton.alphabet]
            sink += 1
        return Automaton(automaton.alphabet, sink, rows)

    def test_all_transitions_and_words(self):
        words = {"ab": ["a", "b", "ab", "ba", "aa", "abb"], "b": ["b", "bb", "bbbb"], "xyz": ["x", "zy", "xyz", "yyy"]}
        for alphabet in words:
            for automaton in some_automata(112, 12, (alphabet,), (1, 2, 3)):
                for word in words[alphabet]:
                    found = behind(word, automaton)
                    self.assertEqual(found, self.really_behind(word, automaton))
                    for prefix, loop in writings(alphabet, 2, 2):
                        start = prefix + loop * 4
                        rest = (prefix[len(word):], loop) if len(prefix) >= len(word) else (
                            "", loop[(len(word) - len(prefix)) % len(loop):] + loop[:(len(word) - len(prefix)) % len(loop)])
                        self.assertIs(really_accepts(found, prefix, loop),
                                      start.startswith(word) and really_accepts(automaton, *rest))

    def test_the_empty_word(self):
        for automaton in some_automata(113, 10):
            self.assertIs(behind("", automaton), automaton)
        self.assertEqual(behind(automaton=ALL, word=""), ALL)
        self.assertEqual(behind("", ring("ab", 65)).size, 65)

    def test_too_many(self):
        for size in (1, 30, 63):
            self.assertEqual(behind("a" * (64 - size), ring("ab", size)).size, 65)
            raised(self, TooMany, {"most": 65}, behind, "a" * (65 - size), ring("ab", size))
            self.assertEqual(behind("a" * (65 - size), ring("a", size)).size, 65)
            raised(self, TooMany, {"most": 65}, behind, "a" * (66 - size), ring("a", size))
        raised(self, TooMany, {"most": 65}, behind, "a" * 200, ALL)
        raised(self, TooMany, {"most": 65}, behind, "a", ring("ab", 64))

    def test_wrong_words(self):
        for word in [*NOTHINGS, *NUMBERS, *WRONG_STRINGS, "a" * 201, "c" * 201]:
            raised(self, InvalidWord, {"given": word}, behind, word, ring("ab", 65))
        for word, letter in (("c", "c"), ("abzc", "z"), ("a" * 199 + "d", "d")):
            raised(self, StrangeLetter, {"given": letter}, behind, word, ring("ab", 65))
        raised(self, StrangeLetter, {"given": "b"}, behind, "ab", ring("a", 2))


class RenamedTest(unittest.TestCase):
    def test_letters_in_any_order(self):
        for alphabet in ("a", "ab", "xyz"):
            for automaton in some_automata(114, 6, (alphabet,), (1, 2, 3)):
                for letters in permutations("abkz", len(alphabet)):
                    names = dict(zip(alphabet, letters))
                    found = renamed(automaton, "".join(letters))
                    rows = [(source, names[letter], target, kind)
                            for source, letter, target, kind in automaton.transitions()]
                    self.assertEqual((found.alphabet, found.size, found.initial, found.transitions()),
                                     ("".join(sorted(letters)), automaton.size, automaton.initial, sorted(rows)))
                    for prefix, loop in writings(alphabet, 1, 2 if len(alphabet) < 3 else 1):
                        other = ["".join(names[letter] for letter in part) for part in (prefix, loop)]
                        self.assertIs(really_accepts(found, *other), really_accepts(automaton, prefix, loop))
        self.assertEqual(renamed(letters="ba", automaton=ALL), ALL)

    def test_wrong_letters(self):
        for alphabet in ("a", "ab", "xyz"):
            automaton = ring(alphabet, 2)
            for letters in [*NOTHINGS, *NUMBERS, *WRONG_STRINGS, "", "a", "ab", "abc", "abcd", "aa", "aba", "Ab", "xyy",
                            ["a", "b"], ("x", "y", "z")]:
                if not isinstance(letters, str) or len(set(letters)) < len(letters) or len(letters) != len(alphabet) or (
                        not letters.islower()):
                    raised(self, InvalidAlphabet, {"given": letters}, renamed, automaton, letters)


if __name__ == "__main__":
    unittest.main()
