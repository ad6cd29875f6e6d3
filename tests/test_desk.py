"""lastslip/desk.py."""

import random
import unittest

from lastslip.desk import Desk
from lastslip.errors import Missing, SlipError
from lastslip.hands import Hand, slips_on
from lastslip.judging import judge
from lastslip.library import Library
from lastslip.papers import harmless
from lastslip.texts import automaton_text
from lastslip.words import Lasso

from oracles import wish_has
from samples import GREAT_TEXTS, NOTHINGS, NUMBERS, really_accepts, writings

TEXTS = {"calm": "never:b", "rest": "blocks:a", "guess": "blocks:a blocks:b either", "far": "calm behind:ab",
         "odd": "never:ab", "all": "blocks:a,b", "none": "calm never:a both", "late": "far guess either"}
SHORT = [Lasso(prefix, loop) for prefix, loop in writings("ab", 1, 2)]


def filled():
    library = Library("ab", limit=10)
    library.apply(*[("put", name, text) for name, text in TEXTS.items()])
    return library


class LineTest(unittest.TestCase):
    """Each line and its answer."""

    def test_commands(self):
        library = Library("ab")
        desk = Desk(library=library)
        self.assertIs(desk.library, library)
        for line, wanted in [("put calm never:b,b,a", "done 1"), ("put rest blocks:a", "done 2"),
                             ("put pair calm rest both", "done 3"), ("change calm never:b", "done 3"),
                             ("rename calm still", "done 3"), ("drop pair", "done 2"), ("undo", "done 3"),
                             ("undo", "done 3"), ("undo", "done 3"), ("undo", "done 2"), ("redo", "done 3"),
                             ("redo", "done 3"), ("redo", "done 3"), ("redo", "done 2")]:
            self.assertEqual(desk(line), wanted)
        self.assertEqual([(name, library[name]) for name in library], [("still", "never:b"), ("rest", "blocks:a")])
        self.assertEqual(library.history(), (6, 0))

    def test_names(self):
        self.assertEqual(Desk(Library("ab"))("names"), "names")
        self.assertEqual(Desk(filled()).answer("names"), "names calm rest guess far odd all none late")

    def test_sizes_and_guesses(self):
        library = filled()
        desk = Desk(library)
        sizes = set()
        for name in TEXTS:
            self.assertEqual(desk(f"size {name}"), f"size {len(library.language_of(name).least)}")
            self.assertEqual(desk(f"guesses {name}"), harmless(library.automaton_of(name)).told())
            sizes.add((desk(f"size {name}"), desk(f"guesses {name}")))
        self.assertEqual([desk("size calm"), desk("size guess"), desk("guesses calm"), desk("guesses guess")],
                         ["size 1", "size 2", "harmless", "harmful"])
        self.assertGreater(len(sizes), 3)

    def test_accepts_and_slips(self):
        library = filled()
        desk = Desk(library)
        answers = []
        for name in TEXTS:
            language = library.language_of(name)
            for lasso in SHORT:
                answers.append(desk(f"accepts {name} {lasso}"))
                self.assertEqual(answers[-1], "yes" if wish_has(name, lasso.prefix, lasso.loop, TEXTS) else "no")
                many = slips_on(Hand.of_least(language.tracker), lasso)
                told = desk(f"slips {name} {lasso}")
                self.assertEqual(told, "slips for ever" if many is None else f"slips {many}")
                self.assertIs(told == "slips for ever", answers[-1] == "no")
                answers.append(told)
        self.assertGreater(len(set(answers)), 4)
        self.assertEqual([desk("slips guess bb(a)"), desk("slips guess (ab)"), desk("slips guess (aa)"),
                          desk("accepts guess " + "ab" * 500 + "(b)"), desk("slips all (ab)")],
                         ["slips 2", "slips for ever", "slips 0", "yes", "slips 0"])

    def test_examples_and_gaps(self):
        desk = Desk(filled())
        for name in TEXTS:
            answers = {wish_has(name, lasso.prefix, lasso.loop, TEXTS) for lasso in SHORT}
            self.assertEqual(desk(f"example {name}"), "some" if True in answers or name == "far" else "none")
            self.assertEqual(desk(f"gap {name}"), "some" if False in answers else "none")
        self.assertEqual([desk("example none"), desk("gap none"), desk("example all"), desk("gap all"),
                          desk("example calm"), desk("gap calm")], ["none", "some", "some", "none", "some", "some"])

    def test_apart_and_stands(self):
        library = filled()
        desk = Desk(library)
        told = set()
        for one in TEXTS:
            for other in TEXTS:
                same = library.language_of(one) == library.language_of(other)
                self.assertEqual(desk(f"apart {one} {other}"), "same" if same else "apart")
                wanted = judge(library.automaton_of(one), library.automaton_of(other)).told()
                self.assertEqual(desk(f"stands {one} {other}"), wanted)
                self.assertIs(wanted == "parted", not same)
                told.add(wanted)
        self.assertEqual(told, {"parted", "harmless", "harmful"})
        self.assertEqual([desk("apart calm rest"), desk("apart calm odd"), desk("stands calm rest"),
                          desk("stands guess odd"), desk("stands odd guess"), desk("stands calm odd")],
                         ["same", "apart", "harmless", "harmful", "harmless", "parted"])

    def test_least(self):
        library = filled()
        desk = Desk(library)
        self.assertEqual(desk("least calm"), "alphabet ab; states 1; initial 0; 0 a 0 safe; 0 b 0 slip; ")
        for name in TEXTS:
            text = automaton_text(library.language_of(name).least)
            self.assertEqual(desk(f"least {name}"), "".join(line + "; " for line in text.split("\n")[:-1]))

    def test_the_example(self):
        library = Library("ab")
        library.put("calm", "never:b")
        library.put("rest", "blocks:a")
        desk = Desk(library)
        self.assertEqual([library.same(), desk("size calm"), desk("accepts rest bab(a)"), desk("drop none"),
                          desk("put c  never:a")],
                         [[("calm", "rest")], "size 1", "yes", "error UnknownName", "error InvalidWish"])


class RefusedTest(unittest.TestCase):
    def test_no_lines(self):
        library = filled()
        desk = Desk(library)
        for value in [*NOTHINGS, *NUMBERS, "", " ", "  ", "name", "Names", "names ", " names", "names x", "names  ",
                      "undo x", "undo ", " undo", "redo 1", "put", "put ", "put x", "put x ", "put  never:a", "put  ",
                      " put x never:a", "put  x never:a", "change", "change calm", "change calm ", "change  never:a",
                      "drop", "drop ", "drop  ", "drop  calm", "drop calm ", "drop calm rest", "rename", "rename calm",
                      "rename calm ", "rename  calm", "rename calm  x", "rename calm x ", "rename calm x y", "size",
                      "size ", "size calm rest", "size  calm", "guesses", "guesses calm ", "accepts", "accepts calm",
                      "accepts (a)", "accepts calm (a) ", "accepts calm  (a)", "accepts calm a (a)", "accepts calm (a) b",
                      "slips calm", "slips", "slips calm (a) (b)", "example", "example calm rest", "gap", "gap  calm",
                      "apart", "apart calm", "apart calm rest odd", "apart  calm rest", "stands calm", "stands calm  rest",
                      "stands calm rest ", "least", "least calm rest", "least calm ", "SIZE calm", "size\ncalm", "names\n",
                      "busy", "history", "kept", "same", "apply", "error InvalidLine", ["names"], ("undo",)]:
            self.assertEqual(desk(value), "error InvalidLine", value)
            self.assertEqual(desk.answer(value), "error InvalidLine")
        self.assertEqual((library, library.history(), library.computed), (filled(), (1, 0), 0))

    def test_the_code_of_each_error(self):
        library = filled()
        library.limit = 9
        desk = Desk(library)
        desk("put more calm")
        lines = {"InvalidName": ["put both never:a", "put Calm never:a", "put abcdefghi never:a", "rename more Calm",
                                 "rename more either", "put x\n never:a", "put 5 never:a", "rename more 5"],
                 "DuplicateName": ["put calm never:c", "put calm x", "rename calm calm", "rename calm rest"],
                 "TooMany": ["put x never:c", "put x nobody"],
                 "InvalidWish": ["change calm never:a both", "change calm  never:a", "change calm never:a ",
                                 "change calm  ", "change calm   ", "change calm a b", "change calm never:c calm both x"],
                 "StrangeLetter": ["change calm never:c", "change calm x never:c both", "accepts calm (c)",
                                   "slips calm a(cab)", "accepts calm c(a)"],
                 "UnknownName": ["change nobody never:c", "drop nobody", "drop 5", "rename nobody x", "size nobody",
                                 "guesses nobody", "accepts nobody (c)", "slips nobody (c)", "example nobody", "gap both",
                                 "apart calm nobody", "apart nobody calm", "stands calm nobody", "stands nobody calm",
                                 "least nobody", "change calm rest", "change calm nobody", "drop calm\n", "rename nobody Both"],
                 "InUse": ["drop calm", "drop far", "drop guess"],
                 "InvalidWord": ["accepts calm a", "accepts nobody a", "slips calm ()", "slips nobody a(b", "accepts calm (A)",
                                 "accepts calm (a)b", "slips 5 5", "accepts calm a(b)(c)", "slips calm (a)\n"],
                 "NothingLeft": ["redo"]}
        for code, some in lines.items():
            for line in some:
                self.assertEqual(desk(line), f"error {code}", line)
        self.assertEqual(library.history(), (2, 0))
        self.assertEqual([desk("undo"), desk("undo"), desk("undo")], ["done 8", "done 0", "error NothingLeft"])

    def test_too_many_states(self):
        library = Library("ab", limit=12)
        for at, (many, text) in enumerate(GREAT_TEXTS):
            library.put("x" + "abcdefg"[at], text)
        library.put("good", "never:a")
        desk = Desk(library)
        for at, (many, _) in enumerate(GREAT_TEXTS):
            name = "x" + "abcdefg"[at]
            for line in (f"size {name}", f"guesses {name}", f"accepts {name} (a)", f"slips {name} (a)", f"example {name}",
                         f"gap {name}", f"apart {name} good", f"apart good {name}", f"stands {name} good",
                         f"stands good {name}", f"least {name}"):
                answer = desk(line)
                self.assertIs(answer == "error TooMany", many > 65, line)
                self.assertIs(answer.startswith("error"), many > 65)

    def test_spaces_in_texts(self):
        library = filled()
        desk = Desk(library)
        for line in ("put x never:a  calm both", "put x  never:a", "put x never:a ", "put x   ", "put x  ",
                     "change calm  never:a", "change calm never:a  ", "change calm    "):
            self.assertEqual(desk(line), "error InvalidWish")
        self.assertEqual(desk("put x never:b,a,b calm both odd either"), "done 9")
        self.assertEqual(library["x"], "never:a,b calm both odd either")
        self.assertEqual(desk("change x calm odd calm both either"), "done 9")
        self.assertEqual(library["x"], "calm odd calm both either")

    def test_names_are_looked_up_from_left_to_right(self):
        library = Library("ab")
        library.put("calm", "never:b")
        library.put("great", GREAT_TEXTS[-1][1])
        library.put("rest", "blocks:a")
        for word in ("apart", "stands"):
            desk = Desk(library.twin())
            self.assertEqual(desk(f"{word} great nobody"), "error TooMany")
            self.assertEqual(desk(f"{word} nobody great"), "error UnknownName")
            self.assertEqual(desk(f"{word} calm nobody"), "error UnknownName")
            self.assertEqual(desk(f"{word} rest great"), "error TooMany")
            if word == "apart":
                self.assertEqual((desk.library.kept(), desk.library.computed), (["calm", "rest"], 2))
        # A lasso is read ahead of its name, and its letters are looked at behind it.
        desk = Desk(library)
        for word in ("accepts", "slips"):
            for line, code in ((f"{word} nobody a", "InvalidWord"), (f"{word} great a", "InvalidWord"),
                               (f"{word} great (c)", "TooMany"), (f"{word} nobody (c)", "UnknownName"),
                               (f"{word} calm (c)", "StrangeLetter")):
                self.assertEqual(desk(line), f"error {code}")
        self.assertEqual(library.kept(), ["calm"])

    def test_languages_are_kept(self):
        library = filled()
        desk = Desk(library)
        kept = []
        for line, name in (("size calm", "calm"), ("accepts rest (a)", "rest"), ("slips odd (a)", "odd"),
                           ("example all", "all"), ("gap none", "none"), ("least far", "far"), ("apart guess calm", "guess")):
            desk(line)
            desk(line)
            kept.append(name)
            self.assertEqual((library.kept(), library.computed), (sorted(kept), len(kept)))


class DeskTest(unittest.TestCase):
    def test_log(self):
        desk = Desk(filled())
        self.assertEqual((desk.log(), len(desk), repr(desk), bool(desk)), ([], 0, "Desk(0 lines)", True))
        lines = ["names", "size calm", None, "drop nobody", ["x", ["y"]], "undo", 5, "names", True, ("undo", [None])]
        answers = [desk(line=line) if at % 2 else desk.answer(line=line) for at, line in enumerate(lines)]
        self.assertEqual(desk.log(), list(zip(lines, answers)))
        self.assertEqual((len(desk), repr(desk)), (10, "Desk(10 lines)"))
        self.assertEqual(answers[3:8], ["error UnknownName", "error InvalidLine", "done 0", "error InvalidLine", "names"])
        self.assertIs(type(desk.log()[0]), tuple)
        lines[4][1].append("z")
        desk.log()[4][0].append("z")
        desk.log().clear()
        self.assertEqual(desk.log()[4], (["x", ["y"]], "error InvalidLine"))
        self.assertEqual(len(desk), 10)

    def test_several_desks_over_one_library(self):
        library = filled()
        one, other = Desk(library), Desk(library)
        self.assertEqual(one("apart calm odd"), "apart")
        self.assertEqual(other("change odd calm"), "done 8")
        self.assertEqual(one("apart calm odd"), "same")
        library.put("more", "odd")
        library.set_limit(9)
        self.assertEqual([one("names"), other("put x odd"), one("drop more"), other("names")],
                         ["names calm rest guess far odd all none late more", "error TooMany", "done 8",
                          "names calm rest guess far odd all none late"])
        library.undo()
        self.assertEqual([one("undo"), other("undo"), one("apart calm odd")], ["done 8", "done 8", "apart"])
        self.assertEqual([len(one), len(other)], [6, 4])
        self.assertEqual([line for line, _ in other.log()], ["change odd calm", "put x odd", "names", "undo"])
        self.assertIs(one.library, other.library)

    def test_against_the_library(self):
        chance = random.Random(280)
        library, model = Library("ab", limit=4), Library("ab", limit=4)
        desk = Desk(library)
        names = ["x", "y", "z", "k", "Both", "w"]
        texts = ["never:a", "x", "y x both", "z behind:a", "blocks:ab", "x both", "never:c", "k x either"]
        codes = {}
        for _ in range(600):
            word = chance.choice(["put", "put", "change", "drop", "rename", "undo", "redo"])
            name, late, text = chance.choice(names), chance.choice(names), chance.choice(texts)
            line = {"put": f"put {name} {text}", "change": f"change {name} {text}", "drop": f"drop {name}",
                    "rename": f"rename {name} {late}"}.get(word, word)
            try:
                if word in ("undo", "redo"):
                    getattr(model, word)()
                else:
                    getattr(model, word)(*{"drop": [name], "rename": [name, late]}.get(word, [name, text]))
                wanted = f"done {len(model)}"
            except (SlipError, Missing) as error:
                wanted = f"error {error.code}"
            self.assertEqual(desk(line), wanted)
            self.assertEqual((library, library.history()), (model, model.history()))
            codes[wanted] = codes.get(wanted, 0) + 1
        self.assertGreater(len(codes), 10)
        for name in library:
            for lasso in SHORT:
                self.assertEqual(desk(f"accepts {name} {lasso}"),
                                 "yes" if really_accepts(model.automaton_of(name), lasso.prefix, lasso.loop) else "no")


if __name__ == "__main__":
    unittest.main()
