"""lastslip/errors.py."""

import inspect
import unittest

from lastslip import errors
from lastslip.errors import Missing, SlipError

GIVEN = ["InvalidAlphabet", "InvalidSize", "InvalidState", "InvalidOrder", "InvalidWord", "InvalidName",
         "InvalidLimit", "InvalidNode", "StrangeLetter"]
AT = ["InvalidTransitions", "InvalidOwners", "InvalidMoves", "InvalidWish", "InvalidCommand"]
ATTRIBUTES = {name: ["given"] for name in GIVEN}
ATTRIBUTES.update({name: ["at"] for name in AT})
ATTRIBUTES.update({
    "InvalidText": ["line"], "InvalidPage": ["line"], "TooMany": ["most"], "DeadEnd": ["node"],
    "DuplicateName": ["name"], "InUse": ["name", "user"], "Incomplete": ["state", "letter"],
    "NotDeterministic": ["state", "letter"], "DifferentAlphabets": [], "HarmfulGuesses": [],
    "WrongPaper": [], "UnknownName": ["name"], "NothingLeft": [],
})
MISSING = ["UnknownName", "NothingLeft"]
VALUES = [None, True, 7, -1, "", "word", (1, "a"), [1, ["b", None]]]


class ErrorsTest(unittest.TestCase):
    def test_there_are_just_these_classes(self):
        found = [name for name, value in vars(errors).items() if inspect.isclass(value)]
        self.assertEqual(sorted(found), sorted([*ATTRIBUTES, "SlipError", "Missing"]))

    def test_bases(self):
        self.assertEqual(SlipError.__bases__, (ValueError,))
        self.assertEqual(Missing.__bases__, (LookupError,))
        for name in ATTRIBUTES:
            base = Missing if name in MISSING else SlipError
            self.assertEqual(getattr(errors, name).__bases__, (base,), name)

    def test_called_by_position_and_by_name(self):
        for name, attributes in ATTRIBUTES.items():
            made = getattr(errors, name)
            for shift in range(len(VALUES)):
                values = (VALUES[shift:] + VALUES)[:len(attributes)]
                named = dict(zip(attributes, values))
                for error in (made(*values), made(**named)):
                    self.assertEqual(vars(error), {"code": name, **named})

    def test_wrong_calls(self):
        for name, attributes in ATTRIBUTES.items():
            made = getattr(errors, name)
            self.assertRaises(TypeError, made, *["x"] * (len(attributes) + 1))
            if attributes:
                self.assertRaises(TypeError, made)

    def test_base_classes_keep_any_code(self):
        for base in (SlipError, Missing):
            for value in VALUES:
                self.assertEqual(base(value).code, value)
                self.assertEqual(base(code=value).code, value)

    def test_lists_are_copied(self):
        for name, attributes in [*ATTRIBUTES.items(), ("SlipError", ["code"]), ("Missing", ["code"])]:
            for attribute in attributes:
                given = ["a", ["b"]]
                error = getattr(errors, name)(**{**dict.fromkeys(attributes), attribute: given})
                given[1].append("c")
                given.append("d")
                self.assertEqual(getattr(error, attribute), ["a", ["b"]])

    def test_they_are_caught_by_their_bases_only(self):
        for name, attributes in ATTRIBUTES.items():
            error = getattr(errors, name)(*attributes)
            self.assertEqual(isinstance(error, ValueError), name not in MISSING)
            self.assertEqual(isinstance(error, LookupError), name in MISSING)


if __name__ == "__main__":
    unittest.main()
