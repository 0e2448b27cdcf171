"""Promise [6]: head rules and the sizes in use."""

import unittest

from asking import NO_INTEGERS, error_of
from tagblocks.headrules import HeadRules


def wrong(*rules):
    return error_of(HeadRules, *rules)


class HeadRulesTest(unittest.TestCase):
    def test_attributes_and_equality(self):
        rules = HeadRules(unit=8, least=32, over=7, wide=33, field=31)
        self.assertEqual((rules.unit, rules.least, rules.over, rules.wide, rules.field), (8, 32, 7, 33, 31))
        self.assertTrue(rules == HeadRules(8, 32, 7, 33, 31))
        for other in ((4, 32, 7, 33, 31), (8, 24, 7, 33, 31), (8, 32, 6, 33, 31), (8, 32, 7, 32, 31), (8, 32, 7, 33, 30)):
            self.assertFalse(rules == HeadRules(*other))
        self.assertFalse(rules == (8, 32, 7, 33, 31))

    def test_edges(self):
        for rules in ((1, 1, 0, 8, 2), (4096, 4096, 4096, 64, 64), (1, 255, 0, 8, 8), (128, 128, 0, 8, 8),
                      (4096, 2 ** 64 - 4096, 0, 64, 64), (64, 192, 0, 8, 8)):
            self.assertIsNone(wrong(*rules), rules)

    def test_unit(self):
        for unit in (0, -1, 3, 6, 12, 4095, 4097, 8192, *NO_INTEGERS):
            self.assertEqual(wrong(unit, None, None, None, None), ("BadRule", "unit"))

    def test_least(self):
        for least in (0, -8, 4, 12, *NO_INTEGERS):
            self.assertEqual(wrong(8, least, -1, None, None), ("BadRule", "least"))
        self.assertEqual(wrong(8, 256, 0, 8, 8), ("BadRule", "least"))
        self.assertEqual(wrong(8, 256, -1, 8, 1), ("BadRule", "least"))
        self.assertEqual(wrong(4096, 4096, 0, 8, 8), ("BadRule", "least"))
        self.assertIsNone(wrong(8, 248, 0, 8, 8))
        # Where wide is none, only that it is a multiple is asked.
        self.assertEqual(wrong(8, 2 ** 70, 0, 65, 8), ("BadRule", "wide"))
        self.assertEqual(wrong(8, 2 ** 70 + 1, 0, 65, 8), ("BadRule", "least"))
        self.assertEqual(wrong(8, 256, 4097, 7, 8), ("BadRule", "over"))

    def test_over_wide_field(self):
        for over in (-1, 4097, *NO_INTEGERS):
            self.assertEqual(wrong(8, 32, over, 0, 0), ("BadRule", "over"))
        for wide in (7, 65, -8, 0, *NO_INTEGERS):
            self.assertEqual(wrong(8, 32, 0, wide, 0), ("BadRule", "wide"))
        for field in (1, 0, 33, *NO_INTEGERS):
            self.assertEqual(wrong(8, 32, 0, 32, field), ("BadRule", "field"))

    def test_sizes_in_use(self):
        rules = HeadRules(8, 24, 0, 8, 8)
        self.assertEqual([size for size in range(300) if rules.in_use(size)], list(range(24, 256, 8)))
        self.assertEqual([rules.next_in_use(size) for size in (0, 24, 25, 247, 248)], [24, 24, 32, 248, 248])
        self.assertEqual([rules.next_in_use(size) for size in (249, 256, 10 ** 60)], [None, None, None])
        self.assertEqual(rules.last_size(), 248)
        self.assertEqual(HeadRules(1, 1, 0, 64, 64).last_size(), 2 ** 64 - 1)
        for value in (-1, *NO_INTEGERS):
            self.assertEqual(error_of(rules.in_use, value), ("BadNumber", value))
            self.assertEqual(error_of(rules.next_in_use, value), ("BadNumber", value))


if __name__ == "__main__":
    unittest.main()
