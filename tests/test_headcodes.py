"""Promises [3], [7], [8] and [9]: texts of head codes, their forms, limits and errors."""

import unittest

from asking import error_of
from tagblocks.headcodes import HeadCode

KINDS = ("make", "size", "used", "ahead", "use", "free", "meet", "part", "round")
HANDED = {"make": ["size", "used", "ahead"], "round": ["n"]}
TOLD = {"make": "word", "size": "size", "used": "used", "ahead": "ahead", "round": "size"}


def wrong(kind, text):
    return error_of(HeadCode, kind, text)


class HeadCodeTest(unittest.TestCase):
    def assert_right(self, kind, *lines):
        self.assertIsNone(wrong(kind, "\n".join(lines)), lines)

    def assert_bad(self, line, kind, *lines):
        self.assertEqual(wrong(kind, "\n".join(lines)), ("BadLine", line), lines)

    def test_kinds(self):
        for kind in KINDS:
            self.assertEqual(HeadCode(kind, "").kind, kind)
        for kind in ("makes", "", "Make", None, 1, True, [], ["make"], ("make",), {}, b"make", object()):
            self.assertEqual(wrong(kind, "no form\n" * 40), ("BadKind", kind))

    def test_attributes_lines_and_length(self):
        code = HeadCode(kind="make", text="word = size + used\na = ahead << 1\nword = word + a")
        self.assertEqual((code.kind, code.text), ("make", "word = size + used\na = ahead << 1\nword = word + a"))
        self.assertEqual([len(code), code[1], code[3]], [3, "word = size + used", "word = word + a"])

    def test_equality(self):
        one = HeadCode("use", "word = word | 1")
        self.assertTrue(one == HeadCode("use", "word = word | 1"))
        self.assertFalse(one == HeadCode("free", "word = word | 1"))
        self.assertFalse(one == HeadCode("use", "word = word | 2"))
        for other in ("word = word | 1", None, 1, ("use", "word = word | 1")):
            self.assertFalse(one == other)

    def test_text_without_signs_and_last_line_feed(self):
        self.assertEqual(len(HeadCode("make", "")), 0)
        self.assert_bad(2, "make", "quit", "")
        self.assert_bad(1, "make", "", "")
        self.assert_bad(2, "make", "quit", "", "quit")

    def test_many_lines(self):
        self.assertEqual(len(HeadCode("make", "\n".join(["quit"] * 20))), 20)
        self.assertEqual(wrong("make", "\n".join(["quit"] * 21)), ("TooMany", "lines", 21, 20))
        self.assertEqual(wrong("make", "\n".join(["nothing"] * 25)), ("TooMany", "lines", 25, 20))

    def test_many_ifs(self):
        four = ["if a < 1", "end"] * 4
        self.assert_right("size", *four)
        self.assertEqual(wrong("size", "\n".join([*four, "if b < 1", "end"])), ("TooMany", "ifs", 5, 4))
        nested = ["if a < 1"] * 5 + ["end"] * 5
        self.assertEqual(wrong("size", "\n".join(nested)), ("TooMany", "ifs", 5, 4))
        self.assert_bad(13, "size", *four, *["if a < 1", "end"] * 2, "what")
        self.assertEqual(wrong("size", "\n".join(["a = 1"] * 4 + nested)), ("TooMany", "ifs", 5, 4))

    def test_blocks(self):
        self.assert_right("size", "if a < 1", "else", "end", "if a < 1", "if b < 1", "end", "else", "a = 1", "end")
        self.assert_bad(1, "size", "end")
        self.assert_bad(1, "size", "else")
        self.assert_bad(3, "size", "if a < 1", "else", "else", "end")
        self.assert_bad(3, "size", "if a < 1", "end", "else")
        self.assert_bad(3, "size", "if a < 1", "end", "end")
        self.assert_bad(2, "size", "if a < 1")
        self.assert_bad(4, "size", "if a < 1", "if a < 1", "end")
        self.assert_bad(3, "size", "if a < 1", "if a < 1")
        self.assert_bad(2, "size", "if a < 1", "what")
        self.assert_bad(2, "size", "if a < 1", "else ")
        self.assert_bad(3, "size", "if a < 1", "else", "end 1")

    def test_sums(self):
        for text in ("size = 1", "size = word", "size = word + a - b + c", "size = 1 + 1 + 1 + 1", "a = size - word",
                     "size = " + "9" * 30, "size = 0", "a = 0 - word"):
            self.assert_right("size", text)
        for text in ("size = ", "size =", "size = +", "size = - 1", "size = -1", "size = word + word", "size = 01",
                     "size = 00", "size = 1" + "0" * 30, "size = word + a + b + c + 1", "size = word +", "size = n",
                     "size = 1  + 2", "size = word * 2", "size = word +1", " size = 1", "size = 1 ", "size = 1 1",
                     "size = a - b - a", "size = 1.0", "size = 1_0", "size = x", "size = A", "size = used"):
            self.assert_bad(1, "size", text)

    def test_what_can_be_set(self):
        for kind in KINDS:
            told = TOLD.get(kind, "word")
            for name in ("a", "b", "c", told):
                self.assert_right(kind, f"{name} = {name}")
            for name in {"size", "used", "ahead", "word", "n", "d", "unit", "least"} - {told}:
                self.assert_bad(1, kind, f"{name} = 1")
            known = {"a", "b", "c", told, *HANDED.get(kind, ["word"])}
            for name in ("a", "b", "c", "size", "used", "ahead", "word", "n", "over", "wide"):
                if name in known:
                    self.assert_right(kind, f"a = {name}", f"if {name} < 1", "end")
                else:
                    self.assert_bad(1, kind, f"a = {name}")
                    self.assert_bad(1, kind, f"if {name} < 1", "end")

    def test_signs(self):
        for text in ("a = word << 1", "a = word >> 63", "a = word - 1 + b << 3", "a = word & 1", "a = word &~ 4088",
                     "a = word | 6", f"a = word ^ {2 ** 64 - 1}", f"a = word & {2 ** 63}", "a = 5 | 3"):
            self.assert_right("size", text)
        for text in ("a = word << 0", "a = word >> 64", "a = word << 01", "a = word << b", "a = << 1", "a = word & 0",
                     "a = word & 5", f"a = word & {2 ** 64}", f"a = word & {2 ** 65 - 1}", "a = word & ~ 1", "a = word &1",
                     "a = word & b", "a = word << 1 << 1", "a = word << 1 + 2", "a = word & 1 & 1", "a = word ~ 1",
                     "a = word + << 1", "a = word // 2", "a = word <<", "a = word | 9", "a = word &~ 10"):
            self.assert_bad(1, "size", text)

    def test_ends(self):
        for kind in KINDS:
            self.assert_right(kind, "quit")
            if kind == "round":
                self.assert_right(kind, "no")
            else:
                self.assert_bad(1, kind, "no")
            for text in ("quit no", "no 1", "Quit", "tell a", "none", "look"):
                self.assert_bad(1, kind, text)

    def test_tests(self):
        for text in ("a < b", "a <= 1", "1 is a", "not a < b", "a < b and b < c and c < a and not word is 0", "1 < 2",
                     "a < b and a < b", "word is " + "9" * 30):
            self.assert_right("size", "if " + text, "end")
        for text in ("", "a", "a < a", "1 < 1", "a > b", "a >= b", "a == b", "a is not b", "not not a < b", "a < b and",
                     "and a < b", "a < b  and b < c", "a < b or b < c", "a + 1 < b", "a < b < c", "not", "a < 01",
                     "a < " + "9" * 31, "a < b and not", "a < b and a < b and a < b and a < b and a < b", "used a"):
            self.assert_bad(1, "size", "if " + text, "end")
        self.assert_bad(1, "size", "if", "end")

    def test_first_bad_line_is_told(self):
        self.assert_bad(2, "size", "a = 1", "what", "else")
        self.assert_bad(3, "size", "if a < 1", "end", "end", "what")
        # A limit that is broken ahead of it does not matter.
        self.assert_bad(5, "size", "a = 1", "a = 1", "a = 1", "a = 1", "what")

    def test_fourth_setting(self):
        self.assert_right("size", *["a = 1", "b = 1", "c = 1", "size = 1"] * 3)
        for name in ("a", "b", "c", "size"):
            self.assertEqual(wrong("size", "\n".join([f"{name} = 1"] * 4)), ("Refused", 4))
        self.assertEqual(wrong("size", "\n".join(["a = 1"] * 3 + ["b = 1"] * 4 + ["a = 1"])), ("Refused", 7))

    def test_fourth_setting_on_a_way(self):
        apart = ["a = 1", "if b < 1", "a = 1", "a = 1", "else", "a = 1", "a = 1", "end"]
        self.assert_right("size", *apart)
        self.assertEqual(wrong("size", "\n".join([*apart, "a = 2"])), ("Refused", 9))
        one_side = ["if b < 1", "a = 1", "a = 1", "end", "a = 1"]
        self.assert_right("size", *one_side)
        self.assertEqual(wrong("size", "\n".join([*one_side, "a = 1"])), ("Refused", 6))
        self.assert_right("size", "if b < 1", "a = 1", "a = 1", "quit", "end", "a = 1", "a = 1", "a = 1")
        self.assert_right("size", "a = 1", "a = 1", "a = 1", "quit", "a = 1", "a = 1")
        self.assert_right("size", "if b < 1", "quit", "else", "quit", "end", *["a = 1"] * 5)
        self.assertEqual(wrong("size", "\n".join(["if b < 1", "quit", "else", "end", *["a = 1"] * 5])), ("Refused", 8))
        self.assert_right("round", "a = 1", "a = 1", "a = 1", "no", "a = 1")

    def test_seventh_sign(self):
        seven = ["a = a << 1", "a = a >> 1", "a = a & 1", "b = b &~ 1", "b = b | 1", "b = b ^ 1", "c = c & 1"]
        self.assert_right("size", *seven[:6], "c = c + 1")
        self.assertEqual(wrong("size", "\n".join(seven)), ("Refused", 7))
        self.assertEqual(wrong("size", "\n".join([*seven[:6], "if a < 1", "c = c & 1", "end"])), ("Refused", 8))
        self.assert_right("size", *seven[:5], "if a < 1", seven[5], "else", seven[6], "end")
        self.assertEqual(wrong("size", "\n".join([*seven[:5], "if a < 1", seven[5], "end", seven[6]])), ("Refused", 9))

    def test_least_refused_line(self):
        lines = ["if c < 1", "b = 1", "b = 1", "b = 1", "b = 1", "else", "a = 1", "a = 1", "a = 1", "a = 1", "end"]
        self.assertEqual(wrong("size", "\n".join(lines)), ("Refused", 5))


if __name__ == "__main__":
    unittest.main()
