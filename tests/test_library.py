"""Libraries, their commands and steps in lastslip/library.py."""

import random
import unittest

from lastslip.errors import (DuplicateName, InUse, InvalidAlphabet, InvalidCommand, InvalidLimit, InvalidName,
                             InvalidWish, NothingLeft, SlipError, Missing, StrangeLetter, TooMany, UnknownName)
from lastslip.languages import Language
from lastslip.library import Library
from lastslip.wishes import Wish, is_name, read_wish

from samples import NOTHINGS, NUMBERS, WRONG_STRINGS, raised

NO_NAMES = [*NOTHINGS, *NUMBERS, *WRONG_STRINGS, "", "both", "either", "abcdefghi"]
NO_COMMANDS = [*NOTHINGS, *NUMBERS, "put", "", ("put",), ("put", "x"), ("put", "x", "never:a", "y"), ("drop",),
               ("drop", "calm", "rest"), ("rename", "calm"), ("rename", "calm", "x", "y"), ("change", "calm"),
               ["put", "x", "never:a"], ["drop", "calm"], ("undo",), ("Put", "x", "never:a"), (None, "x"), (True, "x"),
               ("names",), (("put", "x", "never:a"),), ([["put"]], "x", "never:a"), (0, 1, 2), ("put ", "x", "never:a")]


def shown(library):
    """All that a library shows of itself."""
    names = library.names()
    return (library.alphabet, names, [library[name] for name in names], library.limit, library.history(),
            library.kept(), library.computed, library.busy, len(library), repr(library), list(library))


def filled():
    """A library with five wishes, of which some use others."""
    library = Library("ab", limit=7)
    library.apply(("put", "calm", "never:b"), ("put", "rest", "blocks:a"), ("put", "pair", "calm rest both"),
                  ("put", "far", "pair behind:ab"), ("put", "odd", "never:ab"))
    return library


class Model:
    """A library in a plain way: names, texts, and all earlier states."""

    def __init__(self, alphabet, limit):
        self.alphabet, self.limit = alphabet, limit
        self.now, self.past, self.future = [], [], []

    def read(self, text, names):
        wish = read_wish(text)
        for letter in wish.needed():
            if letter not in self.alphabet:
                raise StrangeLetter(letter)
        for name in wish.names():
            if name not in names:
                raise UnknownName(name)
        return wish.text()

    def behind(self, now, command):
        names = [name for name, _ in now]
        if type(command) is not tuple or command[:1] not in (("put",), ("change",), ("drop",), ("rename",)):
            return None
        if len(command) != (2 if command[0] == "drop" else 3):
            return None
        word, name, *rest = command
        if word == "put":
            if not is_name(name):
                raise InvalidName(name)
            if name in names:
                raise DuplicateName(name)
            if len(now) >= self.limit:
                raise TooMany(self.limit)
            return now + [(name, self.read(rest[0], names))]
        if name not in names:
            raise UnknownName(name)
        at = names.index(name)
        if word == "change":
            return now[:at] + [(name, self.read(rest[0], names[:at]))] + now[at + 1:]
        if word == "drop":
            for user, text in now:
                if name in text.split(" "):
                    raise InUse(name, user)
            return now[:at] + now[at + 1:]
        if not is_name(rest[0]):
            raise InvalidName(rest[0])
        if rest[0] in names:
            raise DuplicateName(rest[0])
        return [(rest[0] if old == name else old,
                 " ".join(rest[0] if token == name else token for token in text.split(" "))) for old, text in now]

    def apply(self, *commands):
        late = self.now
        for at, command in enumerate(commands):
            late = self.behind(late, command)
            if late is None:
                raise InvalidCommand(at)
        self.past, self.now, self.future = self.past + [self.now], late, []


class MadeTest(unittest.TestCase):
    def test_empty(self):
        for alphabet in ("a", "ab", "xyz"):
            library = Library(alphabet)
            self.assertEqual(shown(library), (alphabet, [], [], 6, (0, 0), [], 0, False, 0, "Library(0 wishes)", []))
            self.assertIs(bool(library), True)
            self.assertEqual(library.same(), [])
        self.assertEqual(Library.MOST, 12)
        self.assertEqual(Library(alphabet="ab", limit=3).limit, 3)

    def test_wrong_alphabets_and_limits(self):
        for value in [*NOTHINGS, *NUMBERS, *WRONG_STRINGS, "", "ba", "aa", "abcd"]:
            raised(self, InvalidAlphabet, {"given": value}, Library, value)
            raised(self, InvalidAlphabet, {"given": value}, Library, value, limit=0)
        for value in [*NOTHINGS, *WRONG_STRINGS, "", "5", -1, 0, 13, 10 ** 29]:
            raised(self, InvalidLimit, {"given": value}, Library, "ab", limit=value)
        for value in range(1, 13):
            self.assertEqual(Library("ab", limit=value).limit, value)
        self.assertRaises(TypeError, Library, "ab", 5)

    def test_limits_that_are_assigned(self):
        library = filled()

        def assign(value):
            library.limit = value

        for call in (library.set_limit, assign):
            for value in (12, 5, 6, 7):
                self.assertIsNone(call(value))
                self.assertEqual(library.limit, value)
            kept = shown(library)
            for value in [*NOTHINGS, *WRONG_STRINGS, -1, 0, 1, 4, 13, 10 ** 29]:
                raised(self, InvalidLimit, {"given": value}, call, value)
            self.assertEqual(shown(library), kept)
        library.set_limit(value=5)
        raised(self, TooMany, {"most": 5}, library.put, "x", "never:a")
        library.change("odd", "never:a")
        library.rename("odd", "even")
        library.limit = 6
        library.put("x", "never:a")
        raised(self, TooMany, {"most": 6}, library.put, "y", "never:a")

    def test_the_most_wishes(self):
        library = Library("ab", limit=12)
        for at in range(12):
            library.put("x" + "abcdefghijkl"[at], "never:a" if at == 0 else "x" + "abcdefghijkl"[at - 1])
        raised(self, TooMany, {"most": 12}, library.put, "y", "never:a")
        self.assertEqual((len(library), library.same()), (12, [tuple(library.names())]))
        self.assertEqual(library.touched("xf"), library.names()[5:])

    def test_undo_and_redo_do_not_look_at_the_limit(self):
        library = Library("ab")
        for name in "xyz":
            library.put(name, "never:a")
        for _ in "xyz":
            library.undo()
        library.limit = 1
        for _ in "xyz":
            library.redo()
        self.assertEqual((library.names(), library.limit), (["x", "y", "z"], 1))
        raised(self, TooMany, {"most": 1}, library.put, "k", "never:a")
        raised(self, InvalidLimit, {"given": 2}, library.set_limit, 2)
        self.assertEqual(shown(library.twin()), shown(library))
        library.undo()
        library.set_limit(2)
        self.assertEqual(library.limit, 2)


class CommandTest(unittest.TestCase):
    def test_put(self):
        library = Library("ab")
        self.assertIsNone(library.put("calm", "never:b,a,b"))
        self.assertIsNone(library.put(text="calm behind:a", name="late"))
        library["rest"] = "calm late either"
        self.assertEqual(library.names(), ["calm", "late", "rest"])
        self.assertEqual([library[name] for name in library], ["never:a,b", "calm behind:a", "calm late either"])
        self.assertEqual(library.wish_of("rest"), read_wish("calm late either"))
        self.assertIsInstance(library.wish_of(name="rest"), Wish)
        self.assertEqual(library.history(), (3, 0))

    def test_put_refused(self):
        library = filled()
        kept = shown(library)
        for name in NO_NAMES:
            raised(self, InvalidName, {"given": name}, library.put, name, None)
        raised(self, DuplicateName, {"name": "calm"}, library.put, "calm", None)
        for text, at in ((None, -1), ("", -1), (5, -1), (["a"], -1), ("never:a both", 1), ("never:a never:a", -1),
                         (" never:a", 0), ("never:c both", 1), ("nobody Both", 1)):
            raised(self, InvalidWish, {"at": at}, library.put, "x", text)
            raised(self, InvalidWish, {"at": at}, library.change, "calm", text)
        for text, letter in (("never:c", "c"), ("nobody never:dac both", "c"), ("blocks:ab behind:z", "z")):
            raised(self, StrangeLetter, {"given": letter}, library.put, "x", text)
            raised(self, StrangeLetter, {"given": letter}, library.change, "calm", text)
        for text, name in (("nobody", "nobody"), ("x", "x"), ("zz yy either calm both", "yy"), ("calm x both", "x")):
            raised(self, UnknownName, {"name": name}, library.put, "x", text)
        library.limit = 5
        raised(self, DuplicateName, {"name": "rest"}, library.put, "rest", "never:a both")
        raised(self, InvalidName, {"given": "Rest"}, library.put, "Rest", "never:a")
        raised(self, TooMany, {"most": 5}, library.put, "x", None)
        library.limit = 7
        self.assertEqual(shown(library), kept)

    def test_change(self):
        library = filled()
        self.assertIsNone(library.change("calm", "never:a,a"))
        library.change(text="rest calm either calm both", name="pair")
        library["far"] = "pair behind:b"
        self.assertEqual([library[name] for name in library.names()],
                         ["never:a", "blocks:a", "rest calm either calm both", "pair behind:b", "never:ab"])
        self.assertEqual(library.names(), filled().names())
        kept = shown(library)
        for name in [*NO_NAMES, "nobody", "x"]:
            raised(self, UnknownName, {"name": name}, library.change, name, None)
        # Only what stands before the wish may be used, not the wish itself.
        for name, text, wrong in (("calm", "calm", "calm"), ("calm", "rest odd both", "odd"), ("pair", "far", "far"),
                                  ("pair", "pair odd both calm either", "odd"), ("odd", "odd calm both", "odd")):
            raised(self, UnknownName, {"name": wrong}, library.change, name, text)
        self.assertEqual(shown(library), kept)

    def test_drop(self):
        library = filled()
        for name, user in (("calm", "pair"), ("rest", "pair"), ("pair", "far")):
            raised(self, InUse, {"name": name, "user": user}, library.drop, name)
        for name in [*NO_NAMES, "nobody"]:
            raised(self, UnknownName, {"name": name}, library.drop, name)
        self.assertEqual(library.history(), (1, 0))
        self.assertIsNone(library.drop("far"))
        library.drop(name="pair")
        library.drop("rest")
        self.assertEqual(library.names(), ["calm", "odd"])
        library.put("more", "calm odd both")
        library.put("most", "odd calm either")
        raised(self, InUse, {"name": "calm", "user": "more"}, library.drop, "calm")
        library.drop("more")
        raised(self, InUse, {"name": "calm", "user": "most"}, library.drop, "calm")

    def test_rename(self):
        library = filled()
        self.assertIsNone(library.rename("calm", "still"))
        self.assertEqual(library.names(), ["still", "rest", "pair", "far", "odd"])
        self.assertEqual(library["pair"], "still rest both")
        self.assertEqual(library.wish_of("pair").tokens(), ["still", "rest", "both"])
        self.assertEqual(library.wish_of("pair").names(), ["rest", "still"])
        library.rename(late="calm", name="pair")
        self.assertEqual((library["far"], library.users("still")), ("calm behind:ab", ["calm"]))
        self.assertEqual(library.language_of("far"), filled().language_of("far"))
        kept = shown(library)
        for name in [*NO_NAMES, "pair"]:
            raised(self, UnknownName, {"name": name}, library.rename, name, None)
            if name != "pair":
                raised(self, InvalidName, {"given": name}, library.rename, "odd", name)
        for late in library.names():
            raised(self, DuplicateName, {"name": late}, library.rename, "odd", late)
        self.assertEqual(shown(library), kept)
        # Names that are letters or forms of tokens are told as names only.
        library = Library("ab")
        library.apply(("put", "a", "never:a,b"), ("put", "never", "a never:a both a behind:a either"))
        library.rename("a", "blocks")
        library.rename("never", "a")
        self.assertEqual((library["a"], library.names()), ("blocks never:a both blocks behind:a either", ["blocks", "a"]))

    def test_names_that_are_no_strings(self):
        library = filled()
        for value in NOTHINGS + NUMBERS:
            self.assertIs(value in library, False)
            for call in (library.wish_of, library.users, library.touched, library.automaton_of, library.language_of,
                         library.__getitem__):
                raised(self, UnknownName, {"name": value}, call, value)
            raised(self, InvalidName, {"given": value}, library.__setitem__, value, "never:a")
        for name in library.names():
            self.assertIs(name in library, True)
        for name in ("nobody", "Calm", "", "both"):
            self.assertIs(name in library, False)
            raised(self, UnknownName, {"name": name}, library.touched, name)
        raised(self, InvalidName, {"given": "both"}, library.__setitem__, "both", "never:a")

    def test_set_by_an_index(self):
        library = Library("ab")
        library["x"] = "never:a"
        library["y"] = "x"
        library["x"] = "never:b"
        self.assertEqual((library.names(), library["x"], library.history()), (["x", "y"], "never:b", (3, 0)))

        def assign(name, text):
            library[name] = text

        raised(self, InvalidWish, {"at": 0}, assign, "z", "A")
        raised(self, UnknownName, {"name": "y"}, assign, "x", "y")
        raised(self, UnknownName, {"name": "z"}, assign, "z", "z")
        library.limit = 2
        raised(self, TooMany, {"most": 2}, assign, "z", "x")
        self.assertEqual(library.history(), (3, 0))


class ApplyTest(unittest.TestCase):
    def test_several_commands_as_one_step(self):
        library = filled()
        self.assertEqual((library.history(), repr(library)), ((1, 0), "Library(5 wishes)"))
        self.assertIsNone(library.apply(("rename", "odd", "even"), ("drop", "even"), ("put", "odd", "far"),
                                        ("change", "odd", "far calm both")))
        self.assertEqual((library["odd"], library.history()), ("far calm both", (2, 0)))
        library.apply()
        self.assertEqual(library.history(), (3, 0))
        library.undo()
        library.undo()
        self.assertEqual((library["odd"], library.history()), ("never:ab", (1, 2)))
        library.apply()
        self.assertEqual(library.history(), (2, 0))

    def test_wrong_commands(self):
        library = filled()
        library.language_of("far")
        library.put("more", "calm")
        library.undo()
        kept = shown(library)
        for value in NO_COMMANDS:
            raised(self, InvalidCommand, {"at": 0}, library.apply, value)
            raised(self, InvalidCommand, {"at": 2}, library.apply, ("drop", "odd"), ("put", "x", "far"), value, value)
            # It is reached only if no error comes ahead.
            raised(self, UnknownName, {"name": "nobody"}, library.apply, ("drop", "nobody"), value)
        for name in NO_NAMES:
            raised(self, InvalidName, {"given": name}, library.apply, ("drop", "odd"), ("put", name, "never:a"))
            raised(self, UnknownName, {"name": name}, library.apply, ("drop", name))
        self.assertEqual(shown(library), kept)
        library.redo()
        self.assertEqual(library["more"], "calm")

    def test_nothing_changes_if_a_command_raises(self):
        for wrong, error in [(("put", "Calm", "never:a"), InvalidName), (("put", "calm", "never:a"), DuplicateName),
                             (("put", "x", "both"), InvalidWish), (("put", "x", "never:c"), StrangeLetter),
                             (("change", "nobody", "never:a"), UnknownName), (("drop", "calm"), InUse),
                             (("rename", "pair", "pair"), DuplicateName), (("rename", "pair", "Both"), InvalidName),
                             (("drop", "odd"), UnknownName), (5, InvalidCommand)]:
            library = filled()
            library.same()
            kept = shown(library)
            good = [("change", "calm", "never:a"), ("drop", "odd"), ("rename", "far", "near"), ("put", "more", "near")]
            for many in range(2, len(good) + 1):
                with self.assertRaises(error):
                    library.apply(*good[:many], wrong)
                self.assertEqual(shown(library), kept)
                self.assertIs(library.busy, False)
                self.assertIs(library.users("calm") == ["pair"], True)
            library.undo()
            self.assertEqual(len(library), 0)

    def test_the_limit_counts_for_each_command(self):
        library = Library("ab", limit=2)
        library.apply(("put", "x", "never:a"), ("put", "y", "x"), ("drop", "y"), ("put", "z", "x"))
        raised(self, TooMany, {"most": 2}, library.apply, ("put", "k", "x"), ("drop", "k"))
        library.apply(("drop", "z"), ("put", "k", "x"))
        self.assertEqual(library.names(), ["x", "k"])

    def test_busy(self):
        library = filled()
        for call in (lambda: library.put("x", "calm"), lambda: library.drop("calm"), lambda: library.apply(5),
                     library.undo, library.redo, library.redo, lambda: library.change("calm", None), library.apply,
                     lambda: library.rename("calm", "both"), lambda: library.language_of("nobody")):
            try:
                call()
            except (SlipError, Missing):
                pass
            self.assertIs(library.busy, False)

    def test_random_commands(self):
        chance = random.Random(250)
        errors = {}
        for _ in range(200):
            model = Model("ab", chance.randrange(2, 6))
            library = Library("ab", limit=model.limit)
            for _ in range(50):
                deed = chance.randrange(8)
                if deed == 0 and model.past:
                    library.undo()
                    model.future.append(model.now)
                    model.now = model.past.pop()
                elif deed == 1 and model.future:
                    library.redo()
                    model.past.append(model.now)
                    model.now = model.future.pop()
                else:
                    known = [name for name, _ in model.now]
                    commands = [self.command(chance, known) for _ in range(chance.choice((0, 1, 1, 1, 2, 3)))]
                    wanted = self.told(model.apply, commands)
                    self.assertEqual(self.told(library.apply, commands), wanted)
                    errors[wanted[0]] = errors.get(wanted[0], 0) + 1
                self.assertEqual([(name, library[name]) for name in library], model.now)
                self.assertEqual(library.history(), (len(model.past), len(model.future)))
        self.assertEqual(len(errors), 9)
        self.assertGreater(min(errors.values()), 10, errors)

    def command(self, chance, known):
        """A command, or another value; more often than not with known names."""
        def name():
            return chance.choice(known) if known and chance.randrange(4) else chance.choice(
                ["x", "y", "z", "k", "abcdefgh", "both", "X", "abcdefghi", None])

        text = chance.choice(["never:a", "never:a", "blocks:b,a", f"{name()}", f"{name()} behind:a", f"{name()} {name()} both",
                              f"{name()} never:ab either", "never:c", "", "x both", f"{name()} x", 5])
        fresh = chance.choice(["x", "y", "z", "k", "never", "abcdefgh"])
        return chance.choice([("put", name(), text), ("put", fresh, text), ("put", fresh, "never:a"),
                              ("put", fresh, text), ("change", name(), text), ("change", name(), text),
                              ("drop", name()), ("drop", name()), ("rename", name(), name()),
                              ("rename", name(), fresh), chance.choice(NO_COMMANDS)])

    def told(self, call, commands):
        """The error that a call raises, with its values."""
        try:
            call(*commands)
        except (SlipError, Missing) as error:
            return type(error).__name__, repr(vars(error))
        return "done", ""


class AskedTest(unittest.TestCase):
    def test_users_and_touched(self):
        library = filled()
        library.put("last", "odd far both calm either")
        for name, users, touched in [("calm", ["pair", "last"], ["calm", "pair", "far", "last"]),
                                     ("rest", ["pair"], ["rest", "pair", "far", "last"]),
                                     ("pair", ["far"], ["pair", "far", "last"]), ("far", ["last"], ["far", "last"]),
                                     ("odd", ["last"], ["odd", "last"]), ("last", [], ["last"])]:
            self.assertEqual(library.users(name), users)
            self.assertEqual(library.touched(name=name), touched)

    def test_iteration(self):
        library = filled()
        self.assertEqual([list(library), sorted(library), [name for name in library]],
                         [library.names(), sorted(library.names()), library.names()])
        # As over names(), which is a list of its own.
        seen = []
        for name in library:
            seen.append(name)
            if name == "odd":
                library.drop("odd")
            else:
                library.rename(name, name + "x")
        self.assertEqual(seen, ["calm", "rest", "pair", "far", "odd"])
        self.assertEqual(library.names(), ["calmx", "restx", "pairx", "farx"])
        found = library.names()
        found.clear()
        self.assertEqual(len(library), 4)

    def test_equality(self):
        library = filled()
        self.assertEqual(library, filled())
        late = Library("ab", limit=12)
        for name in library:
            late[name] = library[name]
        late.language_of("calm")
        self.assertEqual(library, late)
        self.assertNotEqual(library, Library("ab"))
        self.assertEqual(Library("ab"), Library("ab", limit=3))
        self.assertNotEqual(Library("ab"), Library("abc"))
        one, other = Library("ab"), Library("ab")
        one.apply(("put", "x", "never:a"), ("put", "y", "never:a"))
        other.apply(("put", "y", "never:a"), ("put", "x", "never:a"))
        self.assertNotEqual(one, other)
        other.apply(("drop", "y"), ("put", "y", "never:b"))
        self.assertNotEqual(one, other)
        other.change("y", "never:a")
        self.assertEqual(one, other)
        for value in [*NOTHINGS, *NUMBERS, library.names(), "ab"]:
            self.assertIs(library == value, False)

    def test_wishes_do_not_change(self):
        library = filled()
        wish = library.wish_of("pair")
        library.rename("calm", "still")
        library.change("rest", "never:a")
        self.assertEqual(wish.text(), "calm rest both")
        wish.tokens().clear()
        self.assertEqual(library["pair"], "still rest both")


class StepTest(unittest.TestCase):
    def test_undo_and_redo(self):
        library = Library("ab")
        raised(self, NothingLeft, {}, library.undo)
        raised(self, NothingLeft, {}, library.redo)
        states = [list(library)]
        for commands in ([("put", "x", "never:a"), ("put", "y", "x")], [], [("rename", "x", "z")],
                         [("change", "y", "z behind:a"), ("put", "x", "y z both"), ("drop", "x")]):
            library.apply(*commands)
            states.append([(name, library[name]) for name in library])
        for at in (3, 2, 1, 0):
            self.assertIsNone(library.undo())
            self.assertEqual([(name, library[name]) for name in library], states[at])
            self.assertEqual(library.history(), (at, 4 - at))
        raised(self, NothingLeft, {}, library.undo)
        for at in (1, 2, 3, 4):
            self.assertIsNone(library.redo())
            self.assertEqual([(name, library[name]) for name in library], states[at])
            self.assertEqual(library.history(), (at, 4 - at))
        raised(self, NothingLeft, {}, library.redo)

    def test_a_step_takes_undone_ones_away(self):
        library = filled()
        library.drop("odd")
        library.undo()
        with self.assertRaises(InUse):
            library.drop("calm")
        self.assertEqual(library.history(), (1, 1))
        library.set_limit(12)
        library.language_of("calm")
        self.assertEqual(library.history(), (1, 1))
        library.put("x", "calm")
        self.assertEqual(library.history(), (2, 0))
        raised(self, NothingLeft, {}, library.redo)

    def test_twins(self):
        library = filled()
        library.put("more", "odd")
        library.language_of("calm")
        library.language_of("far")
        library.undo()
        library.language_of("calm")
        twin = library.twin()
        self.assertIs(type(twin), Library)
        kept = shown(library)
        self.assertEqual(shown(twin), kept)
        self.assertEqual((kept[4], kept[5], kept[6]), ((1, 1), ["calm"], 3))
        self.assertEqual(twin, library)
        self.assertIs(twin.language_of("calm") == library.language_of("calm"), True)
        self.assertEqual(twin.computed, 3)
        twin.language_of("odd")
        twin.redo()
        twin.apply(("rename", "calm", "still"), ("drop", "more"), ("change", "odd", "never:a"))
        twin.limit = 12
        twin.same()
        self.assertEqual(shown(library), kept)
        moved = shown(twin)
        library.language_of("pair")
        library.undo()
        library.put("new", "never:b")
        library.limit = 3
        self.assertEqual(shown(twin), moved)
        twin.undo()
        twin.undo()
        self.assertEqual(twin, filled())
        self.assertIsInstance(twin.language_of("far"), Language)


if __name__ == "__main__":
    unittest.main()
