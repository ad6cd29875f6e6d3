"""lastslip/pages.py."""

import random
import unittest

from lastslip.automata import Automaton
from lastslip.errors import InvalidPage, NothingLeft
from lastslip.library import Library
from lastslip.pages import library_page, read_page, table_of
from lastslip.wishes import read_wish

from samples import NOTHINGS, NUMBERS, raised, some_automata, written

PAGE = ("alphabet ab\ncalm = never:b\nrest = blocks:a,ab\npair = calm rest both\nfar = pair behind:ab\n"
        "odd = never:ab,ba calm either\n")


def filled():
    library = Library("ab")
    for line in PAGE.split("\n")[1:-1]:
        library.put(*line.split(" = "))
    return library


def twelve():
    """A library with twelve wishes, each of which uses the one ahead."""
    library = Library("xyz", limit=12)
    for at, letter in enumerate("abcdefghijkl"):
        library.put("n" + letter, "never:x,zzzzzz" if at == 0 else "n" + "abcdefghijkl"[at - 1] + " behind:xy")
    return library


class PageTest(unittest.TestCase):
    def refused(self, text, line):
        raised(self, InvalidPage, {"line": line}, read_page, text)

    def test_written(self):
        self.assertEqual(library_page(filled()), PAGE)
        self.assertEqual(library_page(library=Library("xyz")), "alphabet xyz\n")
        library = filled()
        library.rename("calm", "still")
        library["odd"] = "never:b,b,a"
        self.assertEqual(library_page(library).split("\n")[1:4],
                         ["still = never:b", "rest = blocks:a,ab", "pair = still rest both"])
        self.assertEqual(library_page(library).split("\n")[5:], ["odd = never:a,b", ""])
        self.assertEqual(library_page(twelve()).count("\n"), 13)

    def test_each_comes_back(self):
        chance = random.Random(270)
        libraries = [Library("a"), Library("xyz", limit=1), filled(), twelve()]
        for _ in range(20):
            library = Library("ab", limit=12)
            for at in range(chance.randrange(1, 13)):
                names = library.names() + ["never:a,b", "blocks:ab"]
                text = f"{chance.choice(names)} {chance.choice(names)} {chance.choice(['both', 'either'])}"
                library.put("k" + "abcdefghijkl"[at], text)
            libraries.append(library)
        for library in libraries:
            library.apply()
            if len(library):
                library.language_of(library.names()[0])
            page = library_page(library)
            found = read_page(page)
            self.assertIs(type(found), Library)
            self.assertEqual(found, library)
            self.assertEqual([(name, found[name]) for name in found], [(name, library[name]) for name in library])
            self.assertEqual((found.alphabet, found.limit, found.history(), found.kept(), found.computed, found.busy),
                             (library.alphabet, 12, (0, 0), [], 0, False))
            raised(self, NothingLeft, {}, found.undo)
            raised(self, NothingLeft, {}, found.redo)
            self.assertEqual(library_page(read_page(text=page)), page)

    def test_what_is_read_is_a_library_of_its_own(self):
        found, other = read_page(PAGE), read_page(PAGE)
        found.put("more", "odd")
        found.undo()
        found.redo()
        self.assertEqual((found.history(), len(found)), ((1, 0), 6))
        self.assertEqual((other, other.history()), (filled(), (0, 0)))

    def test_other_values(self):
        for value in [*NOTHINGS, *NUMBERS, "", " ", "alphabet ab", PAGE[:-1], PAGE + " ", ["alphabet ab\n"]]:
            self.refused(value, 0)

    def test_wrong_alphabets(self):
        for line in ("", "alphabet", "alphabet ", "alphabet ba", "alphabet abcd", "alphabet ab ", " alphabet ab",
                     "alphabet  ab", "Alphabet ab", "alphabet = ab", "calm = never:b", "alphabet A"):
            self.refused(line + "\n" + PAGE.partition("\n")[2], 1)
            self.refused(line + "\n", 1)

    def test_wrong_lines(self):
        lines = PAGE.split("\n")[:-1]
        for wrong in ["", " ", "new", "new =", "new = ", "new=never:a", "new =never:a", "new= never:a", " = never:a",
                      " new = never:a", "new = never:a ", "new  = never:a", "new =  never:a", "New = never:a",
                      "both = never:a", "newername = never:a", "calm = never:a", "new = never:c", "new = never:a both",
                      "new = never:a never:b", "new = nobody", "new = new", "new = Never:a", "new = never:a = never:b",
                      "new = never:b,a", "new = never:a,a", "new = blocks:ab,a", "new = calm never:b,a both", "alphabet ab",
                      "new = never:a  calm both", "new : never:a", "new = \tnever:a", "new = never:aaaaaaa"]:
            for at in range(2, len(lines) + 1):
                self.refused("\n".join(lines[:at] + [wrong] + lines[at:]) + "\n", at + 1)
        self.assertEqual(len(read_page(PAGE + "new = never:a\n")), 6)

    def test_names_that_stand_ahead(self):
        lines = PAGE.split("\n")[:-1]
        self.refused("\n".join([lines[0], lines[3], *lines[1:3], *lines[4:]]) + "\n", 2)
        self.refused("\n".join([lines[0], lines[1], lines[3], lines[2], *lines[4:]]) + "\n", 3)
        self.refused("\n".join(lines[:2] + lines[3:]) + "\n", 3)
        self.refused("\n".join(lines[:1] + lines[2:]) + "\n", 3)
        self.refused("\n".join(lines[:2] + lines[1:]) + "\n", 3)
        self.refused(PAGE + PAGE, 7)
        self.assertEqual(read_page("\n".join([lines[0], lines[2], lines[1], *lines[3:]]) + "\n").names(),
                         ["rest", "calm", "pair", "far", "odd"])

    def test_twelve_wishes(self):
        page = library_page(twelve())
        self.assertEqual(read_page(page), twelve())
        self.refused(page + "more = na\n", 14)
        self.refused(page + "more = na\nless = na\n", 14)


class TableTest(unittest.TestCase):
    def test_written_out(self):
        automaton = written("ab", 3, 1, "0a0 0a1! 0b1 1a0! 1b0 1b1! 1b2 2a2! 2b0!")
        self.assertEqual(table_of(automaton), ["  0: a 0 1!        | b 1           ",
                                               "> 1: a 0!          | b 0 1! 2      ",
                                               "  2: a 2!          | b 0!          "])
        self.assertEqual(table_of(automaton=written("c", 1, 0, "0c0")), ["> 0: c 0           "])
        self.assertEqual(table_of(read_wish("never:a").compiled("abc")), ["> 0: a 0!          | b 0           | c 0           "])

    def test_more_than_ten_states(self):
        rows = [(state, letter, (state + more) % 12, "slip" if more % 2 else "safe")
                for state in range(12) for letter in "ab" for more in ((0, 1, 2, 3, 4) if letter == "a" else (9,))]
        found = table_of(Automaton("ab", 12, rows, initial=10))
        self.assertEqual(found[0], "  0: a 0 1! 2 3! 4 | b 9!          ")
        # A field of more than 12 signs is not cut.
        self.assertEqual(found[9], "  9: a 0! 1 9 10! 11| b 6!          ")
        self.assertEqual(found[10], ">10: a 0 1! 2 10 11!| b 7!          ")
        self.assertEqual(found[6], "  6: a 6 7! 8 9! 10| b 3!          ")
        self.assertEqual(len(found), 12)

    def test_fields_of_just_twelve_signs(self):
        automaton = written("a", 5, 4, "0a0 0a1! 0a2! 0a3! 1a0! 1a1! 1a2! 1a3! 2a0 2a1 2a2! 2a3! 2a4! 3a0! 4a0")
        self.assertEqual(table_of(automaton)[:3], ["  0: a 0 1! 2! 3!  ", "  1: a 0! 1! 2! 3! ", "  2: a 0 1 2! 3! 4!"])
        late = Automaton("a", 5, automaton.transitions() + [(1, "a", 4, "safe")])
        self.assertEqual(table_of(late)[1], "  1: a 0! 1! 2! 3! 4")

    def test_all_targets(self):
        for automaton in some_automata(271, 30, ("a", "ab", "xyz"), (1, 3, 11), 20):
            for state, line in enumerate(table_of(automaton)):
                self.assertEqual(line[:5], (">" if state == automaton.initial else " ") + f"{state:2d}: ")
                fields = line[5:].split("| ")
                self.assertEqual(len(fields), len(automaton.alphabet))
                for letter, field in zip(automaton.alphabet, fields):
                    self.assertEqual(field[:2], letter + " ")
                    self.assertGreaterEqual(len(field), 14)
                    self.assertEqual(field[2:], field[2:].rstrip().ljust(12))
                    moves = [(int(part.rstrip("!")), "slip" if part.endswith("!") else "safe") for part in field[2:].split()]
                    self.assertEqual(moves, automaton.moves(state, letter))


if __name__ == "__main__":
    unittest.main()
