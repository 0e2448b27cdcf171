"""Promises [24] and [28]: bin rules, sizes in use, needs of lengths, and words of the map."""

import unittest

from asking import NO_INTEGERS, error_of
from tagblocks.binrules import BinRules


def wrong(*rules):
    return error_of(BinRules, *rules)


class BinRulesTest(unittest.TestCase):
    def test_attributes_and_equality(self):
        rules = BinRules(unit=8, least=16, over=9, most=800, bins=20, wide=6)
        self.assertEqual((rules.unit, rules.least, rules.over, rules.most, rules.bins, rules.wide, rules.words),
                         (8, 16, 9, 800, 20, 6, 4))
        self.assertTrue(rules == BinRules(8, 16, 9, 800, 20, 6))
        for other in ((4, 16, 9, 800, 20, 6), (8, 24, 9, 800, 20, 6), (8, 16, 8, 800, 20, 6), (8, 16, 9, 808, 20, 6),
                      (8, 16, 9, 800, 21, 6), (8, 16, 9, 800, 20, 5)):
            self.assertFalse(rules == BinRules(*other))
        self.assertFalse(rules == (8, 16, 9, 800, 20, 6))

    def test_words(self):
        self.assertEqual([BinRules(1, 1, 0, 9, bins, 4).words for bins in (1, 4, 5, 8, 15, 16)], [1, 1, 2, 2, 4, 4])
        self.assertEqual(BinRules(1, 1, 0, 9, 256, 16).words, 16)

    def test_edges(self):
        for rules in ((1, 1, 0, 1, 1, 2), (4096, 8192, 4096, 8192, 256, 16), (1, 4097, 4096, 10 ** 30 - 1, 4, 2),
                      (4096, 4096, 4095, 4096, 1, 16)):
            self.assertIsNone(wrong(*rules), rules)

    def test_what_is_none(self):
        for unit in (0, -1, 3, 4097, 8192, *NO_INTEGERS):
            self.assertEqual(wrong(unit, None, None, None, None, None), ("BadRule", "unit"))
        for over in (-1, 4097, *NO_INTEGERS):
            self.assertEqual(wrong(8, None, over, None, None, None), ("BadRule", "over"))
        for least in (0, 8, 9, 12, -16, *NO_INTEGERS):
            self.assertEqual(wrong(8, least, 8, None, None, None), ("BadRule", "least"))
        self.assertEqual(wrong(1, 0, 0, 9, 4, 4), ("BadRule", "least"))
        for most in (8, 20, 0, -8, 10 ** 30, 10 ** 60, *NO_INTEGERS):
            self.assertEqual(wrong(8, 16, 8, most, None, None), ("BadRule", "most"))
        self.assertEqual(wrong(8, 10 ** 40, 8, 10 ** 40, None, None), ("BadRule", "most"))
        for wide in (1, 0, 17, *NO_INTEGERS):
            self.assertEqual(wrong(8, 16, 8, 16, None, wide), ("BadRule", "wide"))
        for bins in (0, -1, 17, 257, *NO_INTEGERS):
            self.assertEqual(wrong(8, 16, 8, 16, bins, 4), ("BadRule", "bins"))
        self.assertEqual(wrong(8, 16, 8, 16, 5, 2), ("BadRule", "bins"))
        self.assertEqual(wrong(8, 16, 8, 16, 257, 16), ("BadRule", "bins"))

    def test_sizes_in_use(self):
        rules = BinRules(8, 16, 9, 40, 4, 4)
        self.assertEqual([size for size in range(60) if rules.in_use(size)], [16, 24, 32, 40])
        self.assertFalse(rules.in_use(10 ** 40))
        for value in (-1, *NO_INTEGERS):
            self.assertEqual(error_of(rules.in_use, value), ("BadNumber", value))

    def test_need(self):
        rules = BinRules(8, 16, 9, 40, 4, 4)
        self.assertEqual([rules.need(n) for n in (1, 7, 8, 15, 16, 23, 24, 31)], [16, 16, 24, 24, 32, 32, 40, 40])
        for value in (0, -1, 32, 10 ** 40, *NO_INTEGERS):
            self.assertEqual(error_of(rules.need, value), ("BadNumber", value))
        great = BinRules(4, 64, 3, 10 ** 29, 4, 4)
        self.assertEqual([great.need(n) for n in (1, 61, 62, 10 ** 29 - 3)], [64, 64, 68, 10 ** 29])


if __name__ == "__main__":
    unittest.main()
