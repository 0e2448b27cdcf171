"""Promises [3], [38], [40], [41], [42]: slab rules, lines of slab codes and their limits."""

import unittest

from asking import NO_INTEGERS, error_of
from slabmakers import BACK, CAREFUL, TAKE, TEXTS
from tagblocks.slabcodes import SlabCode
from tagblocks.slabrules import SlabRules


def error(kind, *lines):
    return error_of(SlabCode, kind, "\n".join(lines))


class RulesTest(unittest.TestCase):
    def test_rules(self):
        rules = SlabRules(wide=32, head=2, each=6)
        self.assertEqual((rules.wide, rules.head, rules.each), (32, 2, 6))
        self.assertEqual([rules.in_use(size) for size in (-1, 0, 8, 9, 2 ** 32 - 1, 2 ** 32)], [False, False, False, True, True, False])
        self.assertEqual([rules.least_maps(many) for many in (0, 1, 32, 33, 10 ** 30)], [0, 1, 1, 2, 31250000000000000000000000000])
        self.assertTrue(rules == SlabRules(32, 2, 6))
        for other in (SlabRules(31, 2, 6), SlabRules(32, 1, 6), SlabRules(32, 2, 5), (32, 2, 6)):
            self.assertFalse(rules == other)

    def test_places_that_fit(self):
        for rules in (SlabRules(4, 0, 1), SlabRules(6, 3, 2), SlabRules(7, 9, 5), SlabRules(8, 0, 3)):
            least = rules.head + 1 + rules.each
            for size in range(least, 2 ** rules.wide):
                fit = [many for many in range(1, size) if rules.head + -(-many // rules.wide) + rules.each * many <= size]
                self.assertEqual(rules.most_places(size), fit[-1])
            for many in range(1, 2 ** rules.wide):
                sizes = [size for size in range(least, 2 ** rules.wide) if rules.most_places(size) >= many]
                self.assertEqual(rules.least_size(many), sizes[0] if sizes else None)
        self.assertEqual(SlabRules(2, 0, 1).most_places(3), 2)
        self.assertEqual(SlabRules(64, 4096, 4096).least_size(2 ** 52), None)
        self.assertEqual(SlabRules(64, 4096, 4096).least_size(10 ** 60), None)
        self.assertEqual(SlabRules(64, 4096, 4096).most_places(8193), 1)

    def test_wrong_rules(self):
        for value in (1, 65, *NO_INTEGERS):
            self.assertEqual(error_of(SlabRules, value, -1, 0), ("BadRule", "wide"))
        for value in (-1, 4097, *NO_INTEGERS):
            self.assertEqual(error_of(SlabRules, 2, value, 0), ("BadRule", "head"))
        for value in (0, 4097, 2, *NO_INTEGERS):
            self.assertEqual(error_of(SlabRules, 2, 1, value), ("BadRule", "each"))
        self.assertEqual((error_of(SlabRules, 13, 4095, 4096), error_of(SlabRules, 13, 4094, 4096)), (("BadRule", "each"), None))

    def test_wrong_sizes(self):
        rules = SlabRules(4, 2, 3)
        for value in (0, 5, 16, -1, *NO_INTEGERS):
            self.assertEqual(error_of(rules.most_places, value), ("BadSize", value))
        for value in NO_INTEGERS:
            self.assertEqual(error_of(rules.in_use, value), ("BadSize", value))
        for value in (0, -1, *NO_INTEGERS):
            self.assertEqual(error_of(rules.least_size, value), ("BadCount", value))


class FormsTest(unittest.TestCase):
    def test_codes(self):
        for kind, texts in TEXTS.items():
            for text in texts:
                code = SlabCode(kind, text)
                self.assertEqual((code.kind, code.text, len(code)), (kind, text, text.count("\n") + 1))
                self.assertEqual([code[k + 1] for k in range(len(code))], text.split("\n"))
        self.assertTrue(SlabCode("take", TAKE) == SlabCode("take", TAKE))
        for other in (SlabCode("take", ""), SlabCode("back", CAREFUL), TAKE, None):
            self.assertFalse(SlabCode("take", TAKE) == other)
        self.assertFalse(SlabCode("take", "quit") == SlabCode("back", "quit"))
        self.assertRaises(TypeError, iter, SlabCode("lay", ""))

    def test_lines_of_all_kinds(self):
        for kind in ("lay", "take", "back"):
            for line in ("a = head + each - wide + 7", "b = a // 2", "c = a // each", "c = a mod wide", "a = 0 * 9", "a = b + c << 63",
                         "a = 1 >> 1", "a = c & 1", f"a = c & {2 ** 63 - 1}", "quit", "a = many * each", "a = " + "9" * 30 + " mod " + "9" * 30):
                self.assertIsNone(error(kind, line), (kind, line))
            for line in ("a = b // 1", "a = b // 0", "a = b * 1", "a = b mod head", "a = b << 0", "a = b << 64", "a = b >> 64", "a = b & 0",
                         "a = b & 2", f"a = b & {2 ** 64 - 1}", "a = b & wide", "a = b << wide", "a = b &~ 1", "head = 1", "each = 2", "wide = 3",
                         "a = b * c", "base = 1", "size = 1", "d = 1", "a = n", "quit 1", "tell a", "a =", "a = b //", "a = // 2", "if a\nend",
                         "if a is a\nend", "a = a + a", "look"):
                self.assertEqual(error(kind, line), ("BadLine", 1), (kind, line))

    def test_lines_of_one_kind(self):
        lines = {"many = 1": "lay", "maps = size // 2": "lay", "a = maps": "lay", "a = size": "lay", "at = base": "take", "at = 1 * each": "take",
                 "find": "take", "set": "take", "word = 1": "back", "bit = number & 31": "back", "clear": "back", "if is set\nend": "back",
                 "if not is set and a < 1\nend": "back", "number = bit": "take back", "used = used + 1": "take back", "list": "take back",
                 "unlist": "take back", "drop": "take back", "no": "take back", "a = base + at - used + word": "take back"}
        for line, kinds in lines.items():
            for kind in ("lay", "take", "back"):
                self.assertEqual(error(kind, line), None if kind in kinds.split(" ") else ("BadLine", 1), (kind, line))
        for line in ("used = used * 2", "used = a & 1", "many = 1", "base = 2", "is set", "if set\nend", "if is clear\nend", "set a"):
            for kind in ("take", "back"):
                self.assertEqual(error(kind, line), ("BadLine", 1), line)
        self.assertEqual(error("back", "at = 1"), ("BadLine", 1))
        self.assertEqual(error("take", "word = 1"), ("BadLine", 1))

    def test_kinds(self):
        for kind in ("", "page", None, 1, ["lay"], True):
            self.assertEqual(error(kind, "what"), ("BadKind", kind))


class LimitsTest(unittest.TestCase):
    def test_lines_and_ifs(self):
        self.assertIsNone(error("lay", *["quit"] * 25))
        self.assertEqual(error("lay", *["what"] * 26), ("TooMany", "lines", 26, 25))
        self.assertIsNone(error("lay", *["if a < 1", "end"] * 5))
        self.assertEqual(error("lay", *["if a < 1", "end"] * 6), ("TooMany", "ifs", 6, 5))
        self.assertEqual(error("lay", *["if a < 1", "end"] * 6, "what"), ("BadLine", 13))

    def test_parting(self):
        lines = ["a = size // 2", "b = size mod 2", "c = size >> 2", "maps = size & 1"]
        self.assertIsNone(error("lay", *lines))
        for line in ("many = size // 2", "many = 1 mod 3", "many = 1 >> 1", "many = 1 & 1"):
            self.assertEqual(error("lay", *lines, "many = 1", line), ("Refused", 6))
        self.assertIsNone(error("lay", *lines[:3], "if a < 1", lines[3], "else", "many = 1 & 1", "end"))
        self.assertIsNone(error("lay", *lines, "quit", "many = size // 2"))

    def test_times(self):
        self.assertIsNone(error("lay", "a = 1 * 2", "b = 1 << 2"))
        self.assertEqual(error("lay", "a = 1 * 2", "b = 1 << 2", "c = 1 << 2"), ("Refused", 3))
        self.assertEqual(error("lay", "a = 1 * each", "b = 1 << 2", "c = 1 * wide"), ("Refused", 3))

    def test_settings(self):
        for name in ("a", "b", "c"):
            self.assertIsNone(error("lay", *[f"{name} = 1"] * 4))
            self.assertEqual(error("lay", *[f"{name} = 1"] * 5), ("Refused", 5))
        self.assertIsNone(error("lay", *["many = 1", "maps = 2"] * 9))
        self.assertIsNone(error("take", *["at = 1"] * 9))
        self.assertIsNone(error("back", *["word = 1", "bit = 2"] * 9))
        for kind in ("take", "back"):
            self.assertEqual(error(kind, "number = 1", "a = 1", "number = 1"), ("Refused", 3))
            self.assertEqual(error(kind, "used = 1", "used = 1"), ("Refused", 2))
            self.assertIsNone(error(kind, "if a < 1", "number = 1", "used = 2", "else", "number = 3", "used = 4", "end"))

    def test_lines_that_come_once(self):
        for kind, line in (("take", "find"), ("take", "set"), ("back", "clear")):
            self.assertIsNone(error(kind, line, "quit", line))
            self.assertEqual(error(kind, line, line), ("Refused", 2))
        self.assertIsNone(error("back", *["if is set", "end"] * 5))

    def test_word_and_bit_too_late(self):
        for line in ("word = 1", "bit = a // 2"):
            self.assertEqual(error("back", "clear", line), ("Refused", 2))
            self.assertEqual(error("back", "if a < 1 and is set", line, "end"), ("Refused", 2))
            self.assertEqual(error("back", "if is set", "end", "a = 1", line), ("Refused", 4))
            self.assertEqual(error("back", "if a < 1", "clear", "end", line), ("Refused", 4))
            self.assertIsNone(error("back", "if a < 1", "clear", "else", line, "end"))
            self.assertIsNone(error("back", line, "if is set", "clear", "end"))

    def test_least_line(self):
        self.assertEqual(error("take", "used = 1", "find", "find", "used = 2"), ("Refused", 3))
        self.assertEqual(error("back", *BACK.split("\n"), "bit = 1", "number = 1"), ("Refused", 14))


if __name__ == "__main__":
    unittest.main()
