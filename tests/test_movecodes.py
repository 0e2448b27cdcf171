"""Promises [3], [31] to [34]: move rules, lines of move codes and their limits."""

import unittest

from asking import NO_INTEGERS, error_of
from movemakers import BOTH, DOWN, TEXTS, UP
from tagblocks.movecodes import MoveCode
from tagblocks.moverules import MoveRules

PLAIN = MoveRules()
LOOP = "while a < len\n{}\nend"


def error(text, kind="any", rules=PLAIN):
    return error_of(MoveCode, kind, rules, text)


class RulesTest(unittest.TestCase):
    def test_rules(self):
        rules = MoveRules(16, 8)
        self.assertEqual((rules.unit, rules.head, PLAIN.unit, PLAIN.head), (16, 8, 1, 0))
        self.assertEqual([length for length in range(60) if rules.in_use(length)], [8, 24, 40, 56])
        self.assertEqual([length for length in range(-9, 9) if MoveRules(3, 2).in_use(length)], [1, 4, 7])
        self.assertTrue(PLAIN.in_use(0) and PLAIN.in_use(10 ** 60))
        for value in (-1, *NO_INTEGERS):
            self.assertFalse(PLAIN.in_use(value))

    def test_wrong_rules(self):
        for value in (0, 17, -1, *NO_INTEGERS):
            self.assertEqual(error_of(MoveRules, value, 99), ("BadRule", "unit"))
        for value in (-1, 9, *NO_INTEGERS):
            self.assertEqual(error_of(MoveRules, 16, value), ("BadRule", "head"))

    def test_equality(self):
        self.assertTrue(MoveRules(2, 1) == MoveRules(unit=2, head=1))
        self.assertFalse(MoveRules(2, 1) == MoveRules(2) or MoveRules(2) == MoveRules() or MoveRules() == (1, 0))


class FormsTest(unittest.TestCase):
    def test_codes(self):
        for text, kind in TEXTS:
            code = MoveCode(kind, PLAIN, text)
            self.assertEqual((code.kind, code.text, code.rules, len(code)), (kind, text, PLAIN, text.count("\n") + 1))
            self.assertEqual([code[k + 1] for k in range(len(code))], text.split("\n"))
        self.assertEqual(len(MoveCode("up", PLAIN, "")), 0)
        self.assertTrue(MoveCode("up", PLAIN, UP) == MoveCode("up", MoveRules(1, 0), UP))
        for other in (MoveCode("up", PLAIN, DOWN), MoveCode("down", PLAIN, UP), MoveCode("up", MoveRules(2), UP), UP):
            self.assertFalse(MoveCode("up", PLAIN, UP) == other)
        self.assertRaises(TypeError, iter, MoveCode("up", PLAIN, UP))

    def test_lines(self):
        for line in ("a = 0", "d = len + gap - a + b", "c = gap - len // 2", "b = 0 // 8", "w1 = from 0", "w8 = from a + b - 1",
                     "to 0 = w1", "to gap - a + b + 3 = w8", "quit", "if gap < 0 and not len is a\nelse\nend", "if 0 <= 1\nend",
                     "a = a + 9", "a = b - a"):
            MoveCode("any", PLAIN, line)
        for line in ("a = ", "a=0", "a = 0 // 1", "a = 0 // 9", "a = 0 // a", "a = 0 * 2", "e = 0", "len = 0", "gap = 0", "w1 = a", "w9 = from 0",
                     "w0 = from 0", "w1 = from", "w1 = to 0", "to 0 = w9", "to = w1", "to 0 = a", "to w1 = w1", "from 0 = w1", "quit now",
                     "no", "tell a", "if w1 < 0\nend", "if 0 is 0\nend", "a = a + a", "w1 = from 0 // 2", "step", " quit", "quit ", "a = 01"):
            self.assertEqual(error(line), ("BadLine", 1), line)

    def test_whiles(self):
        for part in ("a < len", "not a is 5", "0 <= gap", "not len < gap"):
            MoveCode("any", PLAIN, f"while {part}\nw1 = from a\nto a = w1\na = a + 8\nend")
        for part in ("a < len and a < gap", "a", "not", "a < a", "w1 < 2", "not not a < 2", ""):
            self.assertEqual(error(f"while {part}\nw1 = from a\nto a = w1\na = a + 1\nend"), ("BadLine", 1))
        for line in ("a = a + 0", "a = a + 9", "a = 1 + a", "a = b + 1", "a = a + b", "a = a", "a = a + 1 + 1", "a = a // 2", "quit",
                     "if a < 1", "else", "while a < 1", "b = 2", "len = len - 1"):
            self.assertEqual(error(LOOP.format(line)), ("BadLine", 2), line)
        self.assertEqual(error("while a < 1\na = a + 1"), ("BadLine", 3))
        self.assertEqual(error("else"), ("BadLine", 1))
        self.assertEqual(error("if a < 1\nwhile a < 1\nelse\nend\nend"), ("BadLine", 3))
        self.assertEqual(error(UP + "\nend"), ("BadLine", 6))

    def test_kinds(self):
        for kind in ("", "Up", "move", None, 1, ["up"], True):
            self.assertEqual(error_of(MoveCode, kind, PLAIN, "what"), ("BadKind", kind))


class LimitsTest(unittest.TestCase):
    def test_lines_and_ifs(self):
        MoveCode("any", PLAIN, "\n".join(["if a < 1\nend"] * 5 + ["quit"] * 30))
        self.assertEqual(error("\n".join(["what"] * 41)), ("TooMany", "lines", 41, 40))
        self.assertEqual(error("\n".join(["if a < 1\nend"] * 6)), ("TooMany", "ifs", 6, 5))
        self.assertEqual(error("\n".join(["if a < 1\nend"] * 6 + ["what"])), ("BadLine", 13))
        self.assertEqual(error("\n".join(["if a < 1\nend"] * 6 + ["a = 0 // 2"] * 2)), ("TooMany", "ifs", 6, 5))

    def test_settings(self):
        MoveCode("any", PLAIN, "\n".join(["a = 1"] * 3 + ["b = 1"] * 3 + [UP]))
        self.assertEqual(error("a = 1\nb = 2\na = 1\na = 1\na = 1"), ("Refused", 5))
        MoveCode("any", PLAIN, "a = 1\na = 2\nif len < 1\na = 3\nelse\na = 4\nend")
        self.assertEqual(error("a = 1\na = 2\nif len < 1\na = 3\nend\na = 4"), ("Refused", 6))
        MoveCode("any", PLAIN, "a = 1\na = 2\na = 3\nquit\na = 4")

    def test_divisions(self):
        self.assertEqual(error("a = len // 2\nb = len // 2"), ("Refused", 2))
        MoveCode("any", PLAIN, "if len < 1\na = len // 2\nelse\na = len // 4\nend")

    def test_words(self):
        reads = "\n".join(["w1 = from 0"] * 8)
        writes = "\n".join(["to 0 = w1"] * 8)
        MoveCode("any", PLAIN, reads + "\n" + writes + "\n" + UP)
        self.assertEqual(error(reads + "\nw2 = from 1"), ("Refused", 9))
        self.assertEqual(error(reads + "\n" + writes + "\nto 1 = w1"), ("Refused", 17))

    def test_whiles(self):
        MoveCode("any", PLAIN, UP + "\n" + UP)
        self.assertEqual(error(UP + "\n" + UP + "\n" + UP), ("Refused", 11))
        MoveCode("any", PLAIN, f"if gap < 0\n{UP}\nelse\n{DOWN}\nend\n{UP}")
        self.assertEqual(error(f"if gap < 0\n{UP}\nend\n{DOWN}\n{UP}"), ("Refused", 14))

    def test_in_a_while(self):
        for inside, line in (("w1 = from a\nto a = w1\na = a + 1\na = a - 1", 5), ("w1 = from b\nto a = w1\na = a + 1", 2),
                             ("w1 = from a + b\nto a = w1\na = a + 1\nb = b + 1", 2), ("w1 = from a\nto b = w1\na = a + 1", 3),
                             ("w1 = from a\nto a = w2\na = a + 1", 3), ("to a = w1\nw1 = from a\na = a + 1", 2),
                             ("w1 = from a\na = a + 1", 1), ("a = a + 1", 1), ("w1 = from 0\nto 0 = w1", 2)):
            self.assertEqual(error(LOOP.format(inside)), ("Refused", line), inside)
            self.assertEqual(error("quit\n" + LOOP.format(inside)), ("Refused", line + 1), inside)
        MoveCode("any", PLAIN, LOOP.format("a = a + 1\nw1 = from a - 1 + b\nto len - gap + a = w1"))
        eight = "\n".join(f"w{k} = from a\nto a = w{k}" for k in range(1, 9))
        MoveCode("any", PLAIN, LOOP.format(eight + "\na = a + 1"))
        self.assertEqual(error(LOOP.format(eight + "\na = a + 1\nw1 = from a")), ("Refused", 19))
        self.assertEqual(error(LOOP.format(eight + "\na = a + 1\nto a = w1")), ("Refused", 19))

    def test_factors(self):
        step = "w1 = from a\nto a = w1\na = a + {}"
        for unit, by, line in ((1, 7, None), (3, 6, None), (6, 3, None), (4, 6, 4), (16, 8, None), (12, 8, 4), (5, 2, 4)):
            found = (lambda: error(LOOP.format(step.format(by)), rules=MoveRules(unit)))
            if line is None:
                MoveCode("any", MoveRules(unit), LOOP.format(step.format(by)))
            else:
                self.assertEqual(found(), ("Refused", line))
        self.assertEqual(error("quit\na = len // 4\nb = len // 6"), ("Refused", 3))
        self.assertEqual(error("a = len // 4\n" + LOOP.format(step.format(3))), ("Refused", 5))
        self.assertEqual(error(LOOP.format("w1 = from a\nto a = w1\na = a + 4\nb = b - 6")), ("Refused", 5))

    def test_least_line(self):
        self.assertEqual(error("a = 1\na = 1\na = 1\na = 1\na = 0 // 2\nb = 0 // 2"), ("Refused", 4))
        self.assertEqual(error("a = 0 // 2\nb = 0 // 2\na = 1\na = 1\na = 1"), ("Refused", 2))
        self.assertEqual(error(BOTH + "\na = 0 // 4\nb = 0 // 3"), ("Refused", 18))


if __name__ == "__main__":
    unittest.main()
