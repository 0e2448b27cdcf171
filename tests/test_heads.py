"""Promises [2], [5], [7] and [8]: plays of head codes, heads and roundings."""

import unittest

from asking import NO_INTEGERS, error_of
from headmakers import GOOD_TEXTS, HEAD_KINDS, heads_of
from tagblocks.headcodes import HeadCode
from tagblocks.headrules import HeadRules
from tagblocks.heads import Heads, Rounding


def told(text, n, wide=8):
    """What a round code tells."""
    return Rounding(HeadRules(1, 1, 0, wide, wide), HeadCode("round", text)).size_for(n)


class PlayTest(unittest.TestCase):
    def test_rests_of_sums(self):
        self.assertEqual(told("size = n + 15", 250), 9)
        self.assertEqual(told("size = n - 15", 1), 242)
        self.assertEqual(told("size = 0 - 1", 1), 255)
        self.assertEqual(told("size = 1000", 1), 1000 % 256)
        self.assertEqual(told("size = " + "9" * 30, 1), (10 ** 30 - 1) % 256)
        self.assertEqual(told("size = n + 1", 2 ** 64 - 1, 64), 0)

    def test_signs(self):
        for n in (0, 1, 5, 90, 170, 255):
            self.assertEqual(told("size = n << 3", n), n * 8 % 256)
            self.assertEqual(told("size = n >> 3", n), n // 8)
            self.assertEqual(told("size = n << 63", n), 0)
            self.assertEqual(told("size = n >> 63", n), 0)
            self.assertEqual(told("size = n & 28", n), n & 28)
            self.assertEqual(told("size = n &~ 28", n), n & ~28)
            self.assertEqual(told("size = n | 28", n), n | 28)
            self.assertEqual(told("size = n ^ 28", n), n ^ 28)
            self.assertEqual(told("size = n | 1020", n), (n | 1020) % 256)
            self.assertEqual(told(f"size = n ^ {2 ** 64 - 1}", n), n ^ 255)
            self.assertEqual(told("size = n + 200 >> 1", n), (n + 200) % 256 // 2)
            self.assertEqual(told("a = n\nsize = n - 3 + a >> 2", n),
                             (2 * n - 3) % 256 // 4)

    def test_numbers_in_tests_stand_as_they_are(self):
        self.assertEqual(told("if n < 256\nsize = 7\nend", 255), 7)
        self.assertEqual(told("if 256 <= n\nsize = 7\nend", 255), 0)
        self.assertEqual(told("if n is 256\nsize = 7\nend", 0), 0)
        self.assertEqual(told("if 255 < " + "9" * 30 + "\nsize = 7\nend", 0), 7)

    def test_ifs(self):
        text = "if n < 10 and not n is 3\nsize = 1\nelse\nif n <= 20\nsize = 2\nend\nend"
        self.assertEqual([told(text, n) for n in (2, 3, 9, 10, 20, 21)], [1, 2, 1, 2, 2, 0])

    def test_ends(self):
        self.assertEqual(told("size = 1\nquit\nsize = 2", 5), 1)
        self.assertIsNone(told("size = 1\nno\nsize = 2", 5))
        self.assertEqual([told("if n < 4\nno\nend\nsize = n", n) for n in (3, 4)], [None, 4])
        self.assertEqual(told("", 5), 0)

    def test_registers_begin_at_0_and_told_too(self):
        self.assertEqual(told("size = a + b + c + size", 9), 0)
        heads = heads_of(HeadRules(8, 8, 0, 16, 16), use=HeadCode("use", ""), size=HeadCode("size", ""))
        self.assertEqual([heads.read("use", 77), heads.read("size", 77)], [77, 0])
        make = heads_of(HeadRules(8, 8, 0, 16, 16), make=HeadCode("make", "a = word + size\nword = a + used + ahead"))
        self.assertEqual(make.word_of(16, 5, 7), 28)


class HeadsTest(unittest.TestCase):
    def setUp(self):
        self.rules = HeadRules(8, 32, 8, 32, 32)
        self.heads = heads_of(self.rules)

    def test_attributes(self):
        codes = list(self.heads.codes)
        heads = Heads(rules=self.rules, codes=codes)
        codes.pop()
        self.assertEqual((len(heads.codes), isinstance(heads.codes, tuple)), (8, True))
        self.assertTrue(heads.rules == self.rules)
        self.assertTrue(Heads(self.rules, tuple(heads.codes)) == heads)
        self.assertFalse(heads == heads_of(HeadRules(8, 40, 8, 32, 32)))
        self.assertFalse(heads == heads_of(self.rules, use=HeadCode("use", "")))
        self.assertFalse(heads == heads.codes)

    def test_other_kinds(self):
        codes = list(self.heads.codes)
        for wrong in (codes[:7], [*codes, codes[0]], [], codes[::-1], [*codes[:7], codes[6]],
                      [*codes[:7], HeadCode("round", "")]):
            self.assertEqual(error_of(Heads, self.rules, wrong), ("OtherKinds", "heads"))

    def test_code_for(self):
        for kind in HEAD_KINDS:
            self.assertEqual(self.heads.code_for(kind).kind, kind)
        for kind in ("round", "", None, 3, [], True):
            self.assertEqual(error_of(self.heads.code_for, kind), ("BadKind", kind))

    def test_with_code(self):
        changed = self.heads.with_code(HeadCode("meet", "word = 5"))
        self.assertEqual([changed.read("meet", 1), self.heads.read("meet", 1), changed.read("part", 3)], [5, 3, 1])
        self.assertEqual(error_of(self.heads.with_code, HeadCode("round", "")), ("OtherKinds", "heads"))

    def test_words(self):
        self.assertEqual(self.heads.word_of(4088, 1, 1), 4091)
        self.assertEqual(self.heads.word_of(2 ** 32 - 1, 2 ** 32 - 1, 0), 2 ** 32 - 2)
        self.assertEqual([self.heads.read(kind, 4091) for kind in HEAD_KINDS[1:]], [4088, 1, 1, 4091, 4090, 4091, 4089])
        for value in (-1, 2 ** 32, *NO_INTEGERS):
            self.assertEqual(error_of(self.heads.word_of, value, -5, -5), ("BadNumber", value))
            self.assertEqual(error_of(self.heads.word_of, 8, value, -5), ("BadNumber", value))
            self.assertEqual(error_of(self.heads.word_of, 8, 1, value), ("BadNumber", value))
            self.assertEqual(error_of(self.heads.read, "size", value), ("BadNumber", value))
        for kind in ("make", "round", "", None, 1, []):
            self.assertEqual(error_of(self.heads.read, kind, -1), ("BadKind", kind))

    def test_roundings(self):
        code = HeadCode("round", "size = n + 15 &~ 7")
        rounding = Rounding(rules=self.rules, code=code)
        self.assertTrue(rounding.rules == self.rules and rounding.code == code)
        self.assertTrue(rounding == Rounding(self.rules, HeadCode("round", code.text)))
        self.assertFalse(rounding == Rounding(self.rules, HeadCode("round", "")))
        self.assertFalse(rounding == Rounding(HeadRules(8, 32, 8, 33, 32), code))
        self.assertFalse(rounding == code)
        self.assertEqual(rounding.size_for(n=2 ** 32 - 1), 8)
        for value in (-1, 2 ** 32, *NO_INTEGERS):
            self.assertEqual(error_of(rounding.size_for, value), ("BadNumber", value))
        self.assertEqual(error_of(Rounding, self.rules, HeadCode("size", "")), ("OtherKinds", "heads"))

    def test_texts_that_are_good(self):
        for kind, texts in GOOD_TEXTS.items():
            codes = [HeadCode(kind, text) for text in texts]
            for code in codes[1:]:
                for word in (0, 8, 33, 90, 4091):
                    if kind == "make":
                        plays = [self.heads.with_code(one).word_of(word & ~7, word & 1, word >> 1 & 1)
                                 for one in (codes[0], code)]
                    else:
                        plays = [self.heads.with_code(one).read(kind, word) for one in (codes[0], code)]
                    self.assertEqual(plays[0], plays[1], (kind, code.text, word))


if __name__ == "__main__":
    unittest.main()
