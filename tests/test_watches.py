"""lastslip/watches.py."""

import random
import unittest

from lastslip.errors import InvalidLimit, InvalidWord, NothingLeft, StrangeLetter, TooMany
from lastslip.hands import Hand
from lastslip.languages import Language
from lastslip.watches import Watch
from lastslip.wishes import read_wish
from lastslip.words import Lasso

from oracles import wish_has
from samples import NOTHINGS, WRONG_STRINGS, raised, really_accepts, some_automata, strings, writings

TEXTS = ["never:a", "blocks:a blocks:b either", "never:ab behind:ba", "blocks:a,b behind:ab", "blocks:a,b", "never:a,b",
         "never:aa behind:a blocks:b behind:b either", "blocks:ab,ba", "never:a never:b both behind:a never:a either"]
NO_WORDS = [*NOTHINGS, -1, 0, 1, 5, *WRONG_STRINGS, "a" * 201]
NO_LIMITS = [*NOTHINGS, *WRONG_STRINGS, "", "5", -1, 1001, 10 ** 29, -10 ** 29]


def shown(watch):
    """All that a watch shows of itself."""
    return (watch.text(), watch.place, watch.slips, watch.resets, watch.history(), watch.limit, len(watch),
            repr(watch), watch.verdict(), watch.rest())


def watches(seed, many):
    """So many watches of languages of wishes and of some automata."""
    languages = [Language.of_wish("ab", text) for text in TEXTS]
    languages += [Language(automaton) for automaton in some_automata(seed, many, ("ab", "xyz"), (1, 2, 3), 4)]
    return [Watch(language) for language in languages]


class FeedTest(unittest.TestCase):
    def check(self, watch, text, history):
        """Checks what a watch shows by a hand that has read the same letters."""
        hand = Hand.of_least(watch.language.tracker)
        for letter in text:
            hand(letter)
        tracker = watch.language.tracker
        self.assertEqual(shown(watch)[:8], (text, hand.place, hand.slips, hand.resets, history, watch.limit, len(text),
                                            f"Watch({len(text)} letters)"))
        self.assertEqual(watch.rest(), tracker.begun_at(hand.tracked))
        self.assertEqual(watch.rest().size, tracker.size)
        self.assertIs(bool(watch), True)

    def test_words_as_one_step(self):
        for watch in watches(230, 10):
            one, other = watch.language.alphabet[:2]
            self.check(watch, "", (0, 0))
            self.assertIsNone(watch.feed(one))
            self.check(watch, one, (1, 0))
            watch.feed(one + other, "", other * 3)
            self.check(watch, one * 2 + other * 4, (2, 0))
            watch.feed()
            self.check(watch, one * 2 + other * 4, (3, 0))
            watch.feed("")
            watch.feed("", "")
            self.check(watch, one * 2 + other * 4, (5, 0))
            watch.feed(other, one, other, one)
            self.check(watch, one * 2 + other * 4 + (other + one) * 2, (6, 0))

    def test_the_hand_is_that_of_the_least_automaton(self):
        for watch in watches(231, 10):
            self.assertEqual(watch.place, 0)
            self.assertEqual(watch.rest(), watch.language.tracker)
            for letter in (watch.language.alphabet * 7)[3:]:
                before = watch.place
                watch.feed(letter)
                self.assertIn(watch.place, watch.language.least.targets(before, letter))

    def test_steps_by_a_model(self):
        chance = random.Random(232)
        for watch in watches(232, 12):
            past, text, future = [], "", []
            for _ in range(60):
                deed = chance.randrange(5)
                if deed == 0 and past:
                    self.assertIsNone(watch.undo())
                    future.append(text)
                    text = past.pop()
                elif deed == 1 and future:
                    self.assertIsNone(watch.redo())
                    past.append(text)
                    text = future.pop()
                elif deed < 2:
                    call, other = ((watch.undo, past), (watch.redo, future))[deed]
                    self.assertEqual(other, [])
                    raised(self, NothingLeft, {}, call)
                else:
                    words = ["".join(chance.choice(watch.language.alphabet) for _ in range(chance.randrange(3)))
                             for _ in range(chance.randrange(4))]
                    if len(text) + len("".join(words)) <= 200:
                        watch.feed(*words)
                        past, text, future = [*past, text], text + "".join(words), []
                if chance.randrange(4) == 0:
                    self.check(watch, text, (len(past), len(future)))
            self.check(watch, text, (len(past), len(future)))

    def test_undo_and_redo(self):
        watch = Watch(Language.of_wish("ab", TEXTS[1]))
        raised(self, NothingLeft, {}, watch.undo)
        raised(self, NothingLeft, {}, watch.redo)
        states = [shown(watch)]
        for words in (("ab", "b"), (), ("a",), ("bbbb", "aaaa", "ab")):
            watch.feed(*words)
            states.append(shown(watch))
        for at in (3, 2, 1, 0):
            watch.undo()
            self.assertEqual(shown(watch)[:4], states[at][:4])
            self.assertEqual(watch.history(), (at, 4 - at))
        raised(self, NothingLeft, {}, watch.undo)
        for at in (1, 2, 3, 4):
            watch.redo()
            self.assertEqual(shown(watch)[:4], states[at][:4])
            self.assertEqual(watch.history(), (at, 4 - at))
        raised(self, NothingLeft, {}, watch.redo)
        self.assertEqual(shown(watch), states[4])
        watch.undo()
        watch.undo()
        watch.feed()
        self.assertEqual(watch.history(), (3, 0))
        raised(self, NothingLeft, {}, watch.redo)
        self.assertGreater(states[4][2], 2)
        self.assertGreater(states[4][3], 2)

    def test_wrong_words(self):
        watch = Watch(Language.of_wish("ab", TEXTS[1]), limit=10)
        watch.feed("ab", "b")
        watch.feed("a")
        watch.undo()
        kept = shown(watch)
        for value in NO_WORDS:
            for words in ((value,), ("a", value), ("a" * 30, value, "c"), ("", value, None)):
                raised(self, InvalidWord, {"given": value}, watch.feed, *words)
        for words, letter in ((("c",), "c"), (("ab", "bxc"), "x"), (("a", "z", None), "z"), (("b" * 20, "ad"), "d"),
                              (("abc", "A"), "c")):
            raised(self, StrangeLetter, {"given": letter}, watch.feed, *words)
        for words in (("a" * 8,), ("aaaa", "bbbb"), ("a", "", "bbbbbb", "b"), ("a" * 200, "b" * 200)):
            raised(self, TooMany, {"most": 10}, watch.feed, *words)
        self.assertEqual(shown(watch), kept)
        watch.redo()
        self.assertEqual(watch.text(), "abba")


class LimitTest(unittest.TestCase):
    def setUp(self):
        self.language = Language.of_wish("ab", "never:ab")

    def test_made_with_a_limit(self):
        self.assertEqual(Watch.MOST, 1000)
        self.assertEqual(Watch(self.language).limit, 200)
        self.assertIs(Watch(language=self.language, limit=3).language, self.language)
        for value in (0, 1, 200, 1000):
            self.assertEqual(Watch(self.language, limit=value).limit, value)
        for value in NO_LIMITS:
            raised(self, InvalidLimit, {"given": value}, Watch, self.language, limit=value)
        self.assertRaises(TypeError, Watch, self.language, 5)

    def test_assigned(self):
        watch = Watch(self.language)
        watch.feed("abaab")

        def assign(value):
            watch.limit = value

        for call in (watch.set_limit, assign):
            for value in (1000, 5, 6, 200):
                self.assertIsNone(call(value))
                self.assertEqual(watch.limit, value)
            kept = shown(watch)
            for value in [*NO_LIMITS, 0, 4]:
                raised(self, InvalidLimit, {"given": value}, call, value)
            self.assertEqual(shown(watch), kept)
        self.assertEqual(watch.history(), (1, 0))
        watch.set_limit(value=7)
        self.assertEqual(watch.limit, 7)

    def test_the_most_letters(self):
        watch = Watch(self.language, limit=5)
        watch.feed("abab")
        raised(self, TooMany, {"most": 5}, watch.feed, "ab")
        watch.feed("b")
        watch.feed()
        raised(self, TooMany, {"most": 5}, watch.feed, "a")
        watch.limit = 6
        watch.feed("a")
        self.assertEqual((watch.text(), watch.history()), ("ababba", (4, 0)))
        none = Watch(self.language, limit=0)
        none.feed("", "")
        raised(self, TooMany, {"most": 0}, none.feed, "a")

    def test_undo_and_redo_do_not_look_at_it(self):
        watch = Watch(self.language, limit=8)
        watch.feed("abba")
        watch.feed("bbbb")
        watch.undo()
        watch.undo()
        watch.limit = 2
        watch.redo()
        watch.redo()
        self.assertEqual((watch.text(), watch.limit), ("abbabbbb", 2))
        raised(self, TooMany, {"most": 2}, watch.feed, "a")
        raised(self, InvalidLimit, {"given": 7}, watch.set_limit, 7)
        twin = watch.twin()
        self.assertEqual(shown(twin), shown(watch))
        watch.undo()
        watch.limit = 4
        self.assertEqual((watch.text(), watch.limit, twin.limit), ("abba", 4, 2))

    def test_the_greatest_limit(self):
        watch = Watch(self.language, limit=1000)
        for _ in range(4):
            watch.feed("ab" * 100)
        watch.feed("a" * 100, "b" * 99)
        self.assertEqual((len(watch), repr(watch)), (999, "Watch(999 letters)"))
        raised(self, TooMany, {"most": 1000}, watch.feed, "b", "b")
        watch.feed("b")
        raised(self, TooMany, {"most": 1000}, watch.feed, "b")
        self.assertEqual((len(watch), watch.text()), (1000, "ab" * 400 + "a" * 100 + "b" * 100))
        hand = Hand.of_least(self.language.tracker)
        for letter in watch.text():
            hand(letter)
        self.assertEqual((watch.place, watch.slips, watch.resets), (hand.place, hand.slips, hand.resets))
        self.assertGreater(watch.slips, 300)
        for _ in range(6):
            watch.undo()
        self.assertEqual((len(watch), watch.slips), (0, 0))
        for _ in range(6):
            watch.redo()
        self.assertEqual((len(watch), watch.slips, watch.resets), (1000, hand.slips, hand.resets))
        # One step may have more letters than a word.
        long = Watch(self.language, limit=1000)
        long.feed(*["ab" * 100] * 5)
        long.undo()
        long.redo()
        self.assertEqual((len(long), long.history()), (1000, (1, 0)))


class AskedTest(unittest.TestCase):
    def test_verdicts(self):
        seen = {"sure": 0, "hopeless": 0, "open": 0}
        for text in TEXTS:
            language = Language.of_wish("ab", text)
            for word in strings("ab", 0, 5):
                watch = Watch(language)
                watch.feed(word)
                answers = {wish_has(text, word + prefix, loop) for prefix, loop in writings("ab", 3, 3)}
                wanted = {(True,): "sure", (False,): "hopeless"}.get(tuple(answers), "open")
                self.assertEqual(watch.verdict(), wanted, (text, word))
                seen[wanted] += 1
        self.assertGreater(min(seen.values()), 50)

    def test_verdicts_of_automata(self):
        for watch in watches(233, 25):
            automaton = watch.language.least
            for word in strings(automaton.alphabet, 0, 2):
                late = watch.twin()
                late.feed(word)
                answers = {really_accepts(automaton, word + prefix, loop)
                           for prefix, loop in writings(automaton.alphabet, 2, 2)}
                if len(answers) == 2:
                    self.assertEqual(late.verdict(), "open")
                elif answers == {True}:
                    self.assertNotEqual(late.verdict(), "hopeless")
                else:
                    self.assertNotEqual(late.verdict(), "sure")
                if late.verdict() != "open":
                    self.assertEqual(answers, {late.verdict() == "sure"})

    def test_verdicts_behind_undo_and_redo(self):
        watch = Watch(Language.of_wish("ab", "blocks:a,b behind:ab"))
        watch.feed("a")
        self.assertEqual(watch.verdict(), "open")
        watch.feed("b")
        self.assertEqual(watch.verdict(), "sure")
        watch.undo()
        self.assertEqual(watch.verdict(), "open")
        watch.redo()
        self.assertEqual(watch.verdict(), "sure")
        watch.undo()
        watch.feed("a")
        self.assertEqual(watch.verdict(), "hopeless")

    def test_accepts(self):
        answers = []
        for text in TEXTS:
            watch = Watch(Language.of_wish("ab", text))
            for word in strings("ab", 0, 3):
                watch.feed(word)
                for prefix, loop in writings("ab", 1, 3):
                    answers.append(watch.accepts(Lasso(prefix, loop)))
                    self.assertIs(answers[-1], wish_has(text, word + prefix, loop))
                self.assertEqual(watch.text(), word)
                watch.undo()
        self.assertGreater(min(answers.count(True), answers.count(False)), 200)
        watch.feed("a" * 200)
        self.assertIs(watch.accepts(lasso=Lasso("a" * 9000, "b")), True)
        self.assertIs(watch.accepts(lasso=Lasso("b" * 9000, "ba")), False)
        for text, letter in (("(c)", "c"), ("ab(ac)", "c"), ("z(c)", "z"), ("abd(xa)", "d")):
            raised(self, StrangeLetter, {"given": letter}, watch.accepts, Lasso.of_text(text))

    def test_the_rest_is_not_trimmed(self):
        language = Language(read_wish("never:a behind:bb").compiled("ab"))
        watch = Watch(language)
        watch.feed("bb")
        rest = watch.rest()
        self.assertEqual((rest.size, rest.transitions()), (language.tracker.size, language.tracker.transitions()))
        self.assertLess(len(rest.reachable()), rest.size)
        self.assertEqual(Language(rest), Language.of_wish("ab", "never:a"))

    def test_twins(self):
        watch = Watch(Language.of_wish("ab", TEXTS[1]), limit=50)
        watch.feed("ab", "ba")
        watch.feed("a")
        watch.feed("bbb")
        watch.undo()
        twin = watch.twin()
        self.assertIs(type(twin), Watch)
        self.assertIs(twin.language, watch.language)
        kept = shown(watch)
        self.assertEqual(shown(twin), kept)
        twin.redo()
        twin.feed("abab")
        twin.limit = 60
        self.assertEqual(shown(watch), kept)
        moved = shown(twin)
        watch.undo()
        watch.undo()
        watch.limit = 20
        watch.feed("b")
        self.assertEqual(shown(twin), moved)
        self.assertEqual((watch.text(), watch.history()), ("b", (1, 0)))
        for _ in range(4):
            twin.undo()
        raised(self, NothingLeft, {}, twin.undo)
        self.assertEqual((twin.text(), twin.slips, twin.history()), ("", 0, (0, 4)))
        self.assertEqual(watch.text(), "b")

    def test_several_watches_over_one_language(self):
        language = Language.of_wish("ab", TEXTS[1])
        one, other = Watch(language), Watch(language)
        one.feed("aaaa")
        other.feed("bb")
        self.assertEqual((one.text(), other.text()), ("aaaa", "bb"))
        self.assertEqual(language, Language.of_wish("ab", TEXTS[1]))


if __name__ == "__main__":
    unittest.main()
