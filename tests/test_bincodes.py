"""Promises [23], [25] to [30], as far as they speak of class codes, map codes, bins and maps."""

import unittest

from asking import NO_INTEGERS, error_of
from tagblocks.bincodes import BinCode, BinMaps, Bins, MapCode
from tagblocks.binrules import BinRules

FIND = ("a = bin // 4\nb = bin mod 4\np = word a\np from b\nif p empty\nc = a + 1\nif c is 3\nnone\nend\np = roof\np from c\n"
        "if p empty\nnone\nend\na = first p\np = word a\nend\nb = first p\na = a * 4\nb = b + a\ntell b")
MARK = "a = bin // 4\nb = bin mod 4\np = word a\np with b\nword a = p\np = roof\np with a\nroof = p"
CLEAR = ("a = bin // 4\nb = bin mod 4\np = word a\np without b\nword a = p\nq = roof\nif p empty\nq without a\nend\n"
         "roof = q")
HALVES = "a = bits size\nb = a - 3\nc = size >> b\nb = b * 2\nbin = b + c - 4"


def wrong_class(kind, *lines):
    return error_of(BinCode, kind, "\n".join(lines))


def wrong_map(kind, *lines):
    return error_of(MapCode, kind, "\n".join(lines))


class ClassCodeTest(unittest.TestCase):
    def assert_right(self, kind, *lines):
        self.assertIsNone(wrong_class(kind, *lines), lines)

    def assert_bad(self, kind, *lines):
        self.assertEqual(wrong_class(kind, *lines), ("BadLine", len(lines)), lines)

    def assert_refused(self, line, kind, *lines):
        self.assertEqual(wrong_class(kind, *lines), ("Refused", line), lines)

    def test_kinds_attributes_equality(self):
        for kind in ("find", "mark", "", None, 1, True, [], {}, object()):
            self.assertEqual(wrong_class(kind, *["what"] * 30), ("BadKind", kind))
        code = BinCode(kind="hang", text=HALVES)
        self.assertEqual((code.kind, code.text, len(code), code[5]), ("hang", HALVES, 5, "bin = b + c - 4"))
        self.assertTrue(code == BinCode("hang", HALVES))
        for other in (BinCode("hang", ""), HALVES, None, BinCode("ask", "bin = 1"), MapCode("find", "")):
            self.assertFalse(code == other)
        self.assertFalse(BinCode("hang", "") == BinCode("ask", ""))

    def test_many_lines_and_ifs(self):
        self.assert_right("hang", *["quit"] * 20)
        self.assertEqual(wrong_class("hang", *["what"] * 21), ("TooMany", "lines", 21, 20))
        self.assert_right("hang", *["if a < 1", "end"] * 4)
        self.assertEqual(wrong_class("hang", *["if a < size", "end"] * 5), ("TooMany", "ifs", 5, 4))
        self.assertEqual(wrong_class("hang", *["if a < 1", "end"] * 5, ""), ("BadLine", 11))

    def test_lines(self):
        for text in ("bin = size", "a = size + last + 1 - 1", "b = size - 4 * 3", "c = size // 2", "a = bits size + 1",
                     "b = size >> a", "c = size + a >> bin", "a = 3 * 0", "a = size * " + "9" * 30, "quit", "c = 0 - 4",
                     "a = bits " + "9" * 30):
            self.assert_right("hang", text)
        for text in ("size = 1", "last = 1", "a = len", "a = size // 1", "a = size // 0", "a = size * b", "a = size >> 1",
                     "a = size << b", "a = bits", "a = bits size * 2", "a = size >> last", "a = size >> size", "no", "look",
                     "a = size mod 2", "a = size & 1", "p = 1", "a = size // 01", "a = size * 1" + "0" * 30, "bin", "a =",
                     "a = size * 2 * 2", "a = bits bits size", "quit 1", "a = size + size", "tell a", "a = unit", "bin = word",
                     "a = size >> b + 1", "a = * 2", "a = bits - 1"):
            self.assert_bad("hang", text)
        for text in ("bin = len", "a = bits len - 1", "no", "look", "quit", "b = len // 99"):
            self.assert_right("ask", text)
        for text in ("bin = size", "looks", "a = look", "no 1"):
            self.assert_bad("ask", text)

    def test_tests(self):
        for text in ("size < 4", "last < bin", "not size is last and a <= 1", "1 < 2"):
            self.assert_right("hang", f"if {text}", "end")
        for text in ("len < 4", "size < size", "size", "p empty", "size + 1 < 4", "used a"):
            self.assert_bad("hang", f"if {text}")

    def test_names_with_minus(self):
        for text in ("a = 4 - size", "a = size - b", "bin = bits 1 - last", "a = 5 - bin * 2", "a = 5 - b // 2"):
            self.assert_refused(2, "hang", "a = 1", text)
        self.assert_right("hang", "a = size - 4 - 5 - 6")
        self.assert_right("hang", "quit", "a = 4 - size")

    def test_one_line_with_bits(self):
        self.assert_refused(2, "hang", "a = bits size", "a = bits size")
        self.assert_right("hang", "if size < 9", "a = bits size", "else", "b = bits size", "end")
        self.assert_refused(5, "hang", "if size < 9", "a = bits size", "end", "c = 1", "b = bits size")
        self.assert_right("hang", "if size < 9", "a = bits size", "quit", "end", "b = bits size")
        self.assert_right("hang", "a = bits size", "quit", "b = bits size")

    def test_what_is_fixed(self):
        self.assert_right("hang", HALVES)
        for lines in (("b = size",), ("b = size // 2",), ("b = 1", "b = b + size"), ("a = size", "b = a"),
                      ("c = bits size", "b = size >> c"), ("a = bits size", "a = a + size", "b = a"), ("bin = size", "b = bin")):
            self.assert_refused(len(lines) + 1, "hang", *lines, "a = size >> b")
            self.assert_refused(len(lines) + 1, "hang", *lines, "if size < b", "end")
            self.assert_refused(len(lines) + 1, "hang", *lines, "if 1 < 2 and not b is size", "end")
            self.assert_right("hang", *lines, "if b < last and size <= 4 and 9 < b", "end")
        for lines in ((), ("b = 7",), ("b = bits size",), ("b = last * 2",), ("c = bits size", "b = c // 3"),
                      ("b = size", "b = 4"), ("c = bits size", "b = last >> c"), ("b = size", "b = bits size"),
                      ("a = bits size", "b = a", "a = size")):
            self.assert_right("hang", *lines, "a = size >> b")
            self.assert_right("hang", *lines, "if b < size", "end")

    def test_fixed_on_one_way_alone(self):
        lines = ("if size < 9", "b = size", "else", "b = 2", "end")
        self.assert_refused(6, "hang", *lines, "c = size >> b")
        self.assert_right("hang", "if size < 9", "b = size", "quit", "end", "b = 2", "c = size >> b")
        self.assert_refused(6, "hang", *lines, "if b < size", "end")
        self.assert_right("hang", "b = size", "quit", "c = size >> b", "a = 4 - b")
        self.assert_refused(3, "hang", "if size < 9", "a = size", "b = size >> a", "else", "b = 4 - a", "end")


class MapCodeTest(unittest.TestCase):
    def assert_right(self, kind, *lines):
        self.assertIsNone(wrong_map(kind, *lines), lines)

    def assert_bad(self, kind, *lines):
        self.assertEqual(wrong_map(kind, *lines), ("BadLine", len(lines)), lines)

    def test_kinds_attributes_equality(self):
        for kind in ("hang", "ask", "", None, 1, True, [], {}, object()):
            self.assertEqual(wrong_map(kind, *["what"] * 30), ("BadKind", kind))
        code = MapCode(kind="clear", text=CLEAR)
        self.assertEqual((code.kind, code.text, len(code), code[8]), ("clear", CLEAR, 10, "q without a"))
        self.assertTrue(code == MapCode("clear", CLEAR))
        for other in (MapCode("mark", CLEAR), MapCode("clear", MARK), CLEAR, None):
            self.assertFalse(code == other)

    def test_many_lines_and_ifs(self):
        self.assert_right("mark", *["quit"] * 24)
        self.assertEqual(wrong_map("mark", *["what"] * 25), ("TooMany", "lines", 25, 24))
        self.assert_right("mark", *["if a < 1", "end"] * 6)
        self.assertEqual(wrong_map("mark", *["if a < 1", "end"] * 7), ("TooMany", "ifs", 7, 6))
        self.assertEqual(wrong_map("mark", "if a < 1"), ("BadLine", 2))

    def test_lines_of_all_kinds(self):
        for kind in ("find", "mark", "clear"):
            for text in ("a = bin", "b = a + bin - c + 1", "c = bin * 0", "a = bin // 2", "b = bin + 1 mod 3", "c = first p",
                         "p = word a", "q = word 3", "p = word bin", "p = roof", "p = q", "p = p", "p from bin", "q with 0",
                         "p without a", "quit", "a = 0 - bin"):
                self.assert_right(kind, text)
            for text in ("bin = 1", "a = last", "a = size", "a = bin // 1", "a = bin mod 1", "a = bin mod b", "a = first a",
                         "a = first", "p = 1", "p = a", "p = word", "p = word a + 1", "p = word last", "p = roof 1", "r = roof",
                         "p from", "p from a + 1", "p with q", "a with 1", "no", "look", "a = word 1", "a = bits bin",
                         "a = bin >> b", "p = first q", "p without", "a = roof", "word = p", "p = bin", "p from 01"):
                self.assert_bad(kind, text)

    def test_lines_of_one_kind(self):
        for text in ("word a = p", "word 0 = q", "word bin = p", "roof = q"):
            self.assert_right("mark", text)
            self.assert_right("clear", text)
            self.assert_bad("find", text)
        for text in ("tell a", "tell bin", "tell 4", "none"):
            self.assert_right("find", text)
            self.assert_bad("mark", text)
            self.assert_bad("clear", text)
        for text in ("word a = 1", "word p = p", "word a + 1 = p", "roof = a", "roof a = p", "word = p", "roof"):
            self.assert_bad("mark", text)
        for text in ("tell", "tell p", "tell a + 1", "none 1", "tell last"):
            self.assert_bad("find", text)

    def test_tests(self):
        for text in ("p empty", "not q empty and a < bin", "a is 3", "1 <= 2"):
            self.assert_right("find", f"if {text}", "end")
        for text in ("a empty", "p", "p is q", "p is 0", "empty p", "last < a", "roof empty", "p empty 1"):
            self.assert_bad("find", f"if {text}")

    def test_first_and_empty(self):
        lines = ("a = first p", "if p empty and q empty", "end", "b = first q", "c = first p")
        self.assert_right("find", *lines)
        for text in ("a = first p", "if a < 1 and p empty"):
            rest = (text, "end") if text.startswith("if") else (text,)
            self.assertEqual(wrong_map("find", *lines, "a = 1", *rest), ("Refused", 7))
        self.assertEqual(wrong_map("find", *lines[:4], "if p empty and q empty", "end"), ("Refused", 5))
        self.assert_right("find", *lines[:4], "if a < 1", "a = first p", "else", "a = first q", "end")
        self.assertEqual(wrong_map("find", *lines[:4], "if a < 1", "a = first p", "end", "a = first q"), ("Refused", 8))
        for end in ("tell a", "none", "quit"):
            self.assert_right("find", *lines, end, "a = first p")


class BinsTest(unittest.TestCase):
    def setUp(self):
        self.rules = BinRules(1, 4, 0, 1000, 20, 5)
        self.hangs = BinCode("hang", HALVES)
        self.asks = BinCode("ask", "look\nbin = len // 99")
        self.codes = [MapCode("find", FIND), MapCode("mark", MARK), MapCode("clear", CLEAR)]

    def test_bins(self):
        bins = Bins(rules=self.rules, hangs=self.hangs, asks=self.asks, waste=254)
        self.assertTrue(bins.rules == self.rules and bins.hangs == self.hangs and bins.asks == self.asks)
        self.assertEqual((bins.waste, Bins(self.rules, self.hangs, self.asks).waste), (254, 0))
        self.assertTrue(bins == Bins(BinRules(1, 4, 0, 1000, 20, 5), self.hangs, self.asks, 254))
        for other in (Bins(self.rules, self.hangs, self.asks), Bins(BinRules(1, 5, 0, 1000, 20, 5), self.hangs, self.asks, 254),
                      Bins(self.rules, BinCode("hang", ""), self.asks, 254), Bins(self.rules, self.hangs, BinCode("ask", ""), 254),
                      None, self.hangs):
            self.assertFalse(bins == other)

    def test_bins_errors(self):
        for hangs, asks in ((self.asks, self.hangs), (self.hangs, self.hangs), (self.asks, self.asks),
                            (self.codes[0], self.asks), (self.hangs, self.codes[0])):
            self.assertEqual(error_of(Bins, self.rules, hangs, asks, -1), ("OtherKinds", "bins"))
        for waste in (-1, *NO_INTEGERS):
            self.assertEqual(error_of(Bins, self.rules, self.hangs, self.asks, waste), ("BadNumber", waste))
        self.assertIsNone(error_of(Bins, self.rules, self.hangs, self.asks, 10 ** 60))

    def test_maps(self):
        codes = list(self.codes)
        maps = BinMaps(rules=self.rules, codes=codes)
        codes.pop()
        self.assertEqual((len(maps.codes), isinstance(maps.codes, tuple)), (3, True))
        self.assertTrue(maps.rules == self.rules)
        self.assertTrue(maps == BinMaps(self.rules, tuple(self.codes)))
        self.assertFalse(maps == BinMaps(BinRules(1, 5, 0, 1000, 20, 5), self.codes))
        self.assertFalse(maps == BinMaps(self.rules, [*self.codes[:2], MapCode("clear", "")]))
        self.assertFalse(maps == self.codes)
        self.assertEqual([maps.code_for(kind).text for kind in ("find", "mark", "clear")], [FIND, MARK, CLEAR])
        for kind in ("hang", "", None, 1, [], True):
            self.assertEqual(error_of(maps.code_for, kind), ("BadKind", kind))

    def test_maps_errors(self):
        for codes in (self.codes[:2], self.codes[::-1], [], [*self.codes, self.codes[0]], [self.hangs, *self.codes[1:]]):
            self.assertEqual(error_of(BinMaps, self.rules, codes), ("OtherKinds", "maps"))


if __name__ == "__main__":
    unittest.main()
