"""Promise [13]: block rules and sizes in use."""

import unittest

from asking import NO_INTEGERS, error_of
from tagblocks.blockrules import BlockRules


class BlockRulesTest(unittest.TestCase):
    def test_attributes_and_equality(self):
        rules = BlockRules(unit=8, least=24)
        self.assertEqual((rules.unit, rules.least), (8, 24))
        self.assertTrue(rules == BlockRules(8, 24))
        for other in (BlockRules(8, 32), BlockRules(4, 24), (8, 24), None):
            self.assertFalse(rules == other)

    def test_edges(self):
        for unit, least in ((1, 4), (64, 64), (3, 6), (63, 126), (1, 10 ** 30), (4, 4)):
            self.assertIsNone(error_of(BlockRules, unit, least))
        for unit in (0, -1, 65, *NO_INTEGERS):
            self.assertEqual(error_of(BlockRules, unit, None), ("BadRule", "unit"))
        for least in (0, 3, -4, *NO_INTEGERS):
            self.assertEqual(error_of(BlockRules, 1, least), ("BadRule", "least"))
        for unit, least in ((2, 5), (3, 4), (64, 65), (3, 3), (2, 2)):
            self.assertEqual(error_of(BlockRules, unit, least), ("BadRule", "least"))

    def test_sizes(self):
        rules = BlockRules(3, 6)
        self.assertEqual([size for size in range(1, 20) if rules.in_use(size)], [6, 9, 12, 15, 18])
        self.assertEqual([rules.next_in_use(size) for size in (1, 6, 7, 9, 10 ** 40)], [6, 6, 9, 9, 10 ** 40 + 2])
        for value in (0, -3, *NO_INTEGERS):
            self.assertEqual(error_of(rules.in_use, value), ("BadSize", value))
            self.assertEqual(error_of(rules.next_in_use, value), ("BadSize", value))


if __name__ == "__main__":
    unittest.main()
