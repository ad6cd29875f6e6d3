"""lastslip/texts.py."""

import random
import re
import unittest

from lastslip.automata import Automaton
from lastslip.errors import InvalidText
from lastslip.texts import automaton_text, read_automaton

from samples import GREAT, NOTHINGS, NUMBERS, WIDE, raised, some_automata, written

SMALL = written("ab", 2, 1, "0a0 0a1! 0b1 1a0! 1b0 1b1!")
TEXT = ("alphabet ab\nstates 2\ninitial 1\n0 a 0 safe\n0 a 1 slip\n0 b 1 safe\n1 a 0 slip\n1 b 0 safe\n"
        "1 b 1 slip\n")
NUMBER = "(0|[1-9][0-9]*)"


def really_wrong(text):
    """The wrong line of a text, by the words of the document; None if there is none."""
    if not isinstance(text, str) or not text.endswith("\n"):
        return 0
    lines = text.split("\n")[:-1]
    found = re.fullmatch("alphabet ([a-z]+)", lines[0])
    if not found or len(found[1]) > 3 or "".join(sorted(set(found[1]))) != found[1]:
        return 1
    alphabet = found[1]
    size = re.fullmatch("states " + NUMBER, lines[1]) if len(lines) > 1 else None
    if not size or not 1 <= int(size[1]) <= 65:
        return 2
    size = int(size[1])
    initial = re.fullmatch("initial " + NUMBER, lines[2]) if len(lines) > 2 else None
    if not initial or int(initial[1]) >= size:
        return 3
    seen = [(-1, "", -1)]
    for at, line in enumerate(lines[3:], start=4):
        found = re.fullmatch(f"{NUMBER} ([{alphabet}]) {NUMBER} (safe|slip)", line)
        if not found or max(int(found[1]), int(found[3])) >= size:
            return at
        seen.append((int(found[1]), found[2], int(found[3])))
        if seen[-1] <= seen[-2]:
            return at
    if len({row[:2] for row in seen[1:]}) < size * len(alphabet):
        return len(lines) + 1
    return None


def automata():
    return [SMALL, WIDE, *[automaton for _, automaton in GREAT[:3]],
            *some_automata(260, 40, ("a", "ab", "xyz"), (1, 2, 3, 4, 12), 6)]


class WrittenTest(unittest.TestCase):
    def test_lines(self):
        self.assertEqual(automaton_text(SMALL), TEXT)
        self.assertEqual(automaton_text(automaton=written("c", 1, 0, "0c0!")), "alphabet c\nstates 1\ninitial 0\n0 c 0 slip\n")
        for automaton in automata():
            lines = automaton_text(automaton).split("\n")
            self.assertEqual(lines[:3], [f"alphabet {automaton.alphabet}", f"states {automaton.size}",
                                         f"initial {automaton.initial}"])
            self.assertEqual(lines[3:], [" ".join(map(str, row)) for row in automaton.transitions()] + [""])

    def test_each_comes_back(self):
        for automaton in automata():
            found = read_automaton(automaton_text(automaton))
            self.assertEqual(found, automaton)
            self.assertEqual(automaton_text(read_automaton(text=automaton_text(found))), automaton_text(automaton))

    def test_great_ones(self):
        # As ascending transitions: the state 2 comes ahead of the state 10.
        rows = [(source, letter, target, "safe" if (source + target) % 3 else "slip")
                for source in range(65) for letter in "abc" for target in range(65)]
        automaton = Automaton("abc", 65, rows, initial=64)
        text = automaton_text(automaton)
        self.assertEqual(text.count("\n"), 3 + 65 * 65 * 3)
        self.assertEqual(read_automaton(text), automaton)
        lines = text.split("\n")
        self.assertEqual(lines[lines.index("0 a 10 safe") - 1], "0 a 9 slip")
        raised(self, InvalidText, {"line": 9000}, read_automaton, "\n".join(lines[:8999] + lines[8998:]))
        raised(self, InvalidText, {"line": 3 + 65 * 65 * 3}, read_automaton, text[:-5] + "safE\n")


class RefusedTest(unittest.TestCase):
    def refused(self, text, line):
        raised(self, InvalidText, {"line": line}, read_automaton, text)
        self.assertEqual(really_wrong(text), line)

    def test_other_values(self):
        for value in [*NOTHINGS, *NUMBERS, "", " ", "a", "alphabet ab", TEXT[:-1], TEXT + " ", TEXT + "0", ["alphabet ab\n"]]:
            self.refused(value, 0)

    def test_heads(self):
        for head, line in [("\n", 1), ("alphabet\n", 1), ("alphabet \n", 1), ("alphabet ba\n", 1), ("alphabet aa\n", 1),
                           ("alphabet abcd\n", 1), ("alphabet A\n", 1), ("Alphabet ab\n", 1), ("alphabet  ab\n", 1),
                           (" alphabet ab\n", 1), ("alphabet ab \n", 1), ("alphabet a b\n", 1), ("states 2\n", 1),
                           ("alphabet ab\n", 2), ("alphabet ab\n\n", 2), ("alphabet ab\nstates\n", 2),
                           ("alphabet ab\nstates 0\n", 2), ("alphabet ab\nstates 66\n", 2),
                           ("alphabet ab\nstates 02\n", 2), ("alphabet ab\nstates +2\n", 2),
                           ("alphabet ab\nstates -1\n", 2), ("alphabet ab\nstates 2 \n", 2),
                           ("alphabet ab\nstates  2\n", 2), ("alphabet ab\nstates two\n", 2),
                           ("alphabet ab\nstate 2\n", 2), ("alphabet ab\nstates 2.0\n", 2),
                           ("alphabet ab\nstates 1_0\n", 2), ("alphabet ab\nstates " + "9" * 3000 + "\n", 2),
                           ("alphabet ab\nalphabet ab\n", 2), ("alphabet ab\ninitial 0\n", 2),
                           ("alphabet ab\nstates 2\n", 3), ("alphabet ab\nstates 2\n\n", 3),
                           ("alphabet ab\nstates 2\ninitial 2\n", 3), ("alphabet ab\nstates 2\ninitial 00\n", 3),
                           ("alphabet ab\nstates 2\ninitial -1\n", 3), ("alphabet ab\nstates 2\ninitial\n", 3),
                           ("alphabet ab\nstates 2\ninitial 0 \n", 3), ("alphabet ab\nstates 2\n0 a 0 safe\n", 3),
                           ("alphabet ab\nstates 2\nstates 2\n", 3), ("alphabet ab\nstates 2\ninitial 0\n", 4),
                           ("alphabet ab\nstates 2\ninitial 0\n\n", 4)]:
            self.refused(head, line)
            if not head.count("\n") < line:
                self.refused(head + "0 a 0 safe\n", line)

    def test_the_example(self):
        self.refused("alphabet a\nstates 1\ninitial 0\n", 4)
        self.assertEqual(read_automaton("alphabet a\nstates 1\ninitial 0\n0 a 0 slip\n"), written("a", 1, 0, "0a0!"))

    def test_wrong_transitions(self):
        lines = TEXT.split("\n")[:-1]
        for wrong in ["", " ", "0 a 0", "0 a 0 safe ", " 0 a 0 safe", "0  a 0 safe", "0 a 0 Safe", "0 a 0 safe slip",
                      "0 c 0 safe", "0 ab 0 safe", "2 a 0 safe", "0 a 2 safe", "00 a 0 safe", "0 a 00 safe",
                      "0 a 01 slip", "01 a 0 safe", "-0 a 0 safe", "0 a -1 safe", "0 A 0 safe", "0,a,0,safe", "a 0 0 safe",
                      "0 a 0 ", "0 a  safe", "states 2", "initial 0", "alphabet ab", "x a 0 safe", "0 a 0\tsafe"]:
            for at in range(3, len(lines)):
                self.refused("\n".join(lines[:at] + [wrong] + lines[at:]) + "\n", at + 1)
                self.refused("\n".join(lines[:at] + [wrong] + lines[at + 1:]) + "\n", at + 1)
            self.refused(TEXT + wrong + "\n", 10)

    def test_lines_in_a_wrong_order(self):
        lines = TEXT.split("\n")[:-1]
        for at in range(3, len(lines)):
            # A line twice, also with the other kind.
            self.refused("\n".join(lines[:at + 1] + lines[at:]) + "\n", at + 2)
            other = lines[at][:-4] + ("slip" if lines[at].endswith("safe") else "safe")
            self.refused("\n".join(lines[:at] + [other] + lines[at:]) + "\n", at + 2)
            for late in range(at + 1, len(lines)):
                mixed = list(lines)
                mixed[at], mixed[late] = mixed[late], mixed[at]
                self.refused("\n".join(mixed) + "\n", at + 2)
        for at in range(3):
            for late in range(at + 1, 4):
                mixed = list(lines)
                mixed[at], mixed[late] = mixed[late], mixed[at]
                self.refused("\n".join(mixed) + "\n", at + 1)

    def test_missing_lines(self):
        lines = TEXT.split("\n")[:-1]
        for at in range(3):
            self.refused("\n".join(lines[:at] + lines[at + 1:]) + "\n", at + 1)
        for at in range(1, len(lines)):
            # Behind the lines that are left, the states and letters that have none are wrong.
            if at < 8:
                self.refused("\n".join(lines[:at]) + "\n", at + 1)
        self.assertEqual(read_automaton("\n".join(lines[:-1]) + "\n"), written("ab", 2, 1, "0a0 0a1! 0b1 1a0! 1b0"))
        # The only transition of a state and letter is missing, which is no fault of the next line.
        for at in (5, 6):
            self.refused("\n".join(lines[:at] + lines[at + 1:]) + "\n", 9)
        self.refused("\n".join(lines[:3] + lines[5:]) + "\n", 8)
        self.refused("\n".join(lines[:3] + lines[7:]) + "\n", 6)
        for at in (3, 4, 7, 8):
            self.assertEqual(len(read_automaton("\n".join(lines[:at] + lines[at + 1:]) + "\n").transitions()), 5)

    def test_changed_texts(self):
        chance = random.Random(261)
        found = set()
        for automaton in automata()[5:]:
            text = automaton_text(automaton)
            for _ in range(60):
                late = text
                for _ in range(chance.randrange(1, 3)):
                    late = self.changed(chance, late)
                wrong = really_wrong(late)
                if wrong is None:
                    self.assertEqual(automaton_text(read_automaton(late)), late)
                else:
                    self.refused(late, wrong)
                found.add(wrong)
        self.assertLess({None, 0, 1, 2, 3, 4, 5, 6, 7, 8}, found)

    def changed(self, chance, text):
        """The text with a character or a line changed, left out, put in twice, or exchanged."""
        if chance.randrange(2):
            at = chance.randrange(len(text) + 1)
            return text[:at] + chance.choice(["", "0", "1", " ", "\n", "a", "b", "slip", "-"]) + text[at + chance.randrange(2):]
        lines = text.split("\n")
        at, late = chance.randrange(len(lines)), chance.randrange(len(lines))
        deed = chance.randrange(3)
        if deed == 0:
            del lines[at]
        elif deed == 1:
            lines.insert(at, lines[late])
        else:
            lines[at], lines[late] = lines[late], lines[at]
        return "\n".join(lines)


if __name__ == "__main__":
    unittest.main()
