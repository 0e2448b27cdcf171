"""Promise [4]: the errors, their attributes and their order below BlockError."""

import unittest

from tagblocks import errors

SIGNATURES = {
    "BadKind": ("kind",), "BadLine": ("line",), "Refused": ("line",), "TooMany": ("what", "many", "most"),
    "BadPromise": ("promise",), "BadRule": ("what",), "BadSize": ("size",), "BadNumber": ("number",),
    "BadCount": ("many",), "BadCase": ("case",), "BadOutcomes": ("word",), "BadName": ("name",),
    "BadLength": ("length",), "OtherKinds": ("part",), "OtherRules": ("part",), "Broken": ("part",),
    "BadGap": ("gap",), "BadMap": ("index",),
}
VALUES = [0, -1, 10 ** 5000, "x", "", None, True, [], {}, (), [[1]], b"x", object(), ValueError("x")]


class ErrorsTest(unittest.TestCase):
    def test_all_stand_directly_below_block_error(self):
        found = [name for name in vars(errors) if isinstance(getattr(errors, name), type)]
        self.assertEqual(sorted(found), sorted([*SIGNATURES, "BlockError"]))
        self.assertEqual(errors.BlockError.__bases__, (ValueError,))
        for name in SIGNATURES:
            self.assertEqual(getattr(errors, name).__bases__, (errors.BlockError,), name)

    def test_attributes_hold_values_of_any_kind(self):
        for name, arguments in SIGNATURES.items():
            for value in VALUES:
                made = [getattr(errors, name)(*[value for _ in arguments]),
                        getattr(errors, name)(**{argument: value for argument in arguments})]
                for error in made:
                    for argument in arguments:
                        self.assertIs(getattr(error, argument), value)
                    self.assertIsInstance(str(error), str)

    def test_attributes_are_not_mixed_up(self):
        error = errors.TooMany("lines", 21, 20)
        self.assertEqual((error.what, error.many, error.most), ("lines", 21, 20))

    def test_they_are_caught_as_what_they_are(self):
        for name, arguments in SIGNATURES.items():
            with self.assertRaises(errors.BlockError):
                raise getattr(errors, name)(*arguments)


if __name__ == "__main__":
    unittest.main()
