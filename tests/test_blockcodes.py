"""Promises [3], [16], [18] and [19]: texts of block codes, their forms, limits and errors."""

import unittest

from asking import error_of
from blockmakers import TEXTS
from tagblocks.blockcodes import BlockCode
from tagblocks.blockrules import BlockRules

RULES = BlockRules(1, 4)
KINDS = ("free", "take", "grow", "cut")


def wrong(kind, *lines):
    return error_of(BlockCode, kind, RULES, "\n".join(lines))


class BlockCodeTest(unittest.TestCase):
    def assert_right(self, *lines):
        self.assertIsNone(wrong("grow", *lines), lines)

    def assert_bad(self, line, *lines):
        self.assertEqual(wrong("grow", *lines), ("BadLine", line), lines)

    def test_kinds(self):
        for kind in KINDS:
            self.assertEqual(len(BlockCode(kind, RULES, "")), 0)
        for kind in ("frees", "", None, 1, True, [], ("free",), {}, object(), "make"):
            self.assertEqual(wrong(kind, *["what"] * 50), ("BadKind", kind))

    def test_attributes_and_equality(self):
        code = BlockCode(kind="cut", rules=RULES, text=TEXTS["cut"])
        self.assertEqual((code.kind, code.text, len(code), code[1]), ("cut", TEXTS["cut"], 28, "a = size own"))
        self.assertTrue(code.rules == RULES)
        self.assertTrue(code == BlockCode("cut", BlockRules(1, 4), TEXTS["cut"]))
        for other in (BlockCode("cut", BlockRules(1, 5), TEXTS["cut"]), BlockCode("cut", RULES, ""), TEXTS["cut"], None,
                      BlockCode("grow", RULES, TEXTS["cut"])):
            self.assertFalse(code == other)

    def test_many_lines_and_ifs(self):
        self.assert_right(*["quit"] * 48)
        self.assertEqual(wrong("grow", *["what"] * 49), ("TooMany", "lines", 49, 48))
        self.assert_right(*["if a < 1", "end"] * 7)
        self.assertEqual(wrong("grow", *["if a < 1", "end"] * 8), ("TooMany", "ifs", 8, 7))
        self.assertEqual(wrong("grow", *["if a < 1", "end"] * 8, "what"), ("BadLine", 17))
        # Too many ifs are told ahead of a line that is refused.
        self.assertEqual(wrong("free", "no", *["if a < 1", "end"] * 8), ("TooMany", "ifs", 8, 7))
        self.assert_bad(2, "quit", "")
        self.assert_bad(2, "if a < 1")

    def test_lines_with_numbers(self):
        for text in ("a = size own", "b = size ahead p", "c = want", "a = unit + least - want + 3", "b = " + "9" * 30,
                     "c = a - b + c - 1"):
            self.assert_right(text)
        for text in ("a = size bin", "a = size", "a = size ahead", "a = size ahead bin", "a = size own + 1", "d = 1",
                     "a = own", "a = p", "a = next p", "want = 1", "unit = 2", "a = " + "9" * 31, "a = 1 << 2", "a = n",
                     "a = want + want", "a = size want", "own = p", "a = used p", "a = 1 + 2 + 3 + 4 + 5"):
            self.assert_bad(1, text)

    def test_lines_with_places(self):
        for text in ("p = own", "q = q", "r = own + want", "s = p - 4 + 2", "p = next own", "q = prev bin", "r = next r",
                     "s = own - unit - least - 1 + a"):
            self.assert_right(text)
        for text in ("p = bin", "p = a", "p = 4", "p = own + p", "p = bin + 1", "p = next a", "p = next", "own = p",
                     "p = own * 2", "p = own +", "p = own + 1 + 2 + 3 + 4 + 5", "p = next own + 1", "p = size own",
                     "bin = p", "t = own", "p = foot own", "p = own - - 1"):
            self.assert_bad(1, text)

    def test_lines_that_write(self):
        for text in ("head own = a used free", "head p = a + b - want + 1 free free", "size s = 4", "used p", "free own",
                     "ahead used q", "ahead free r", "foot s = a - 1", "next p = q", "prev bin = bin", "next bin = own",
                     "prev own = bin"):
            self.assert_right(text)
        for text in ("head bin = 4 used used", "head own = 4 used", "head own = used used", "head own 4 used used",
                     "head own = 4 used used used", "head own = 4 used ahead", "size bin = 4", "size own =", "size own = p",
                     "used bin", "used", "used own p", "ahead own", "ahead used bin", "ahead used", "foot bin = 4", "foot s",
                     "next p = a", "next a = p", "next p = q + 1", "prev p", "next = p", "next p = next q", "free bin",
                     "foot own = 4 used", "size own = 4 used", "head a = 4 used used"):
            self.assert_bad(1, text)

    def test_tests(self):
        for text in ("used own", "not ahead used p", "p is bin", "own is bin", "not s is bin and used s and a < want",
                     "unit <= least", "1 is 2"):
            self.assert_right("if " + text, "end")
        for text in ("bin is bin", "p is q", "free p", "ahead free p", "p is own", "used bin", "p < q", "a is bin",
                     "not", "used", "used p q", "a is a", "size own < 3", "bin is p", "p is not bin"):
            self.assert_bad(1, "if " + text, "end")

    def test_no_and_want(self):
        for kind in ("take", "grow"):
            self.assertIsNone(wrong(kind, "a = want", "no"))
        self.assertIsNone(wrong("cut", "a = want"))
        self.assertEqual(wrong("cut", "quit", "no"), ("Refused", 2))
        self.assertEqual(wrong("free", "quit", "no"), ("Refused", 2))
        for text in ("a = want", "p = own + want", "size own = want", "foot own = 1 + want", "head own = want used used"):
            self.assertEqual(wrong("free", "quit", text, "no"), ("Refused", 2))
        self.assertEqual(wrong("free", "a = 1", "if used own and want < 4", "end"), ("Refused", 2))
        self.assertEqual(wrong("free", "a = want", "what"), ("BadLine", 2))

    def test_settings(self):
        for name in ("a", "b", "c"):
            self.assert_right(*[f"{name} = 1", f"{name} = size own", f"{name} = size ahead own"])
            self.assertEqual(wrong("cut", *[f"{name} = 1"] * 3, f"{name} = size own"), ("Refused", 4))
        for name in ("p", "q", "r", "s"):
            self.assert_right(*[f"{name} = own", f"{name} = own + 1", f"{name} = next bin", f"{name} = prev own"])
            self.assertEqual(wrong("cut", *[f"{name} = own"] * 4, f"{name} = prev bin"), ("Refused", 5))
        sides = ["if used own", "a = 1", "a = 1", "else", "a = 1", "end", "a = 1"]
        self.assert_right(*sides)
        self.assertEqual(wrong("cut", *sides, "a = 1"), ("Refused", 8))
        self.assert_right("if used own", "a = 1", "a = 1", "quit", "end", "a = 1", "a = 1", "a = 1")
        self.assert_right("a = 1", "a = 1", "a = 1", "quit", "a = 1")

    def test_reads(self):
        reads = ["a = size own", "b = size ahead own", "p = next own", "q = prev bin", "if used p and ahead used q", "end"]
        six = ["a = size own", "b = size ahead own", "p = next own", "q = prev bin", "if used p and not ahead used q", "end"]
        self.assert_right(*reads, *six)
        self.assertEqual(wrong("cut", *reads, *six, "c = size own"), ("Refused", 13))
        self.assertEqual(wrong("cut", *reads, *six, "if a < 1 and used own", "end"), ("Refused", 13))
        self.assert_right(*reads, *six, "if a < 1 and p is bin", "used own", "head own = 4 used used", "end")
        self.assertEqual(wrong("cut", *reads, *six[:4], "if used p and used q and used own", "end"), ("Refused", 11))
        self.assert_right(*reads, *six[:4], "if used p", "c = size own", "else", "c = size p", "end")

    def test_writes(self):
        writes = ["head own = 4 used used", "size own = 4", "used own", "free own", "ahead used own", "ahead free own",
                  "foot own = 4", "next own = bin", "prev bin = own"]
        self.assert_right(*writes, *writes[:5])
        for text in writes:
            self.assertEqual(wrong("cut", *writes, *writes[:5], "a = 1", text), ("Refused", 16))
        self.assertEqual(wrong("cut", *writes, "if a < 1", *writes[:5], "end", "used p", "a = 1"), ("Refused", 17))


if __name__ == "__main__":
    unittest.main()
