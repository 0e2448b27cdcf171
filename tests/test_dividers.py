"""Point [46]: dividers, at all numbers to 10 ** 60."""

import random
import unittest

from asking import NO_INTEGERS, error_of
from tagblocks import dividers
from tagblocks.dividers import Divider, divider_many, divider_next, divider_right, divider_wrong, least_shift, times_for

MOST = 10 ** 60


def plain_wrong(divider, top):
    """The numbers up to one at which a divider is wrong, each reckoned."""
    return [x for x in range(top + 1)
            if x * divider.multiplier + divider.offset >> divider.shift != x // divider.by]


class DividerTest(unittest.TestCase):
    def check(self, divider, top):
        wrong = plain_wrong(divider, top)
        right = [x for x in range(top + 1) if x not in set(wrong)]
        for x in sorted({0, 1, top // 3, top // 2, *wrong[:2], *[x + 1 for x in wrong[:2]], *right[:2]}):
            told = divider_wrong(divider, x)
            owed = min([y for y in wrong if y >= x], default=None)
            self.assertTrue(told == owed or (owed is None and told > top), (vars(divider), x, told))
            told = divider_next(divider, x)
            owed = min([y for y in right if y >= x], default=None)
            self.assertTrue(told == owed or (owed is None and (told is None or told > top)), (vars(divider), x, told))
            self.assertEqual(divider_many(divider, x), len([y for y in wrong if y <= x]), (vars(divider), x))
            self.assertEqual(divider_right(divider, x), x not in wrong)

    def test_small_ones_by_reckoning(self):
        chance = random.Random(46)
        for _ in range(600):
            by, shift = chance.randint(2, 12), chance.randint(0, 10)
            times = chance.choice([0, chance.randint(0, 40), (1 << shift) // by, (1 << shift) // by + 1, chance.randint(0, 999)])
            offset = chance.choice([0, 0, chance.randint(0, 30), chance.randint(0, 2000)])
            self.check(Divider(by, times, offset, shift), 300)

    def test_edges(self):
        for divider in (Divider(2, 1, 0, 1), Divider(2, 0, 0, 0), Divider(3, 0, 7, 0), Divider(3, 0, 7, 2), Divider(2, 1, 0, 0),
                        Divider(5, 1, 0, 400), Divider(7, 37, 0, 8), Divider(7, 36, 36, 8), Divider(4, 1, 4, 2)):
            self.check(divider, 200)
        halves = Divider(2, 1, 0, 1)
        self.assertIsNone(divider_wrong(halves, 0))
        self.assertEqual([divider_many(halves, MOST), divider_next(halves, MOST)], [0, MOST])
        none = Divider(2, 0, 0, 400)
        self.assertEqual([divider_wrong(none, 0), divider_next(none, 2), divider_many(none, MOST)], [2, None, MOST - 1])
        later = Divider(MOST, 0, 3, 0)
        self.assertEqual([divider_next(later, 0), divider_wrong(later, 0), divider_many(later, 9)], [3 * MOST, 0, 10])

    def test_the_first_wrong_number_and_those_beside_it(self):
        seven = Divider(7, 9363, 0, 16)
        self.assertEqual([divider_wrong(seven, x) for x in (0, 13109, 13110, 13111)], [13110, 13110, 13110, 13117])
        self.assertEqual([divider_right(seven, x) for x in (13109, 13110, 13111)], [True, False, True])
        self.assertEqual([divider_many(seven, x) for x in (13109, 13110, 13116, 13117)], [0, 1, 1, 2])

    def test_great_numbers(self):
        chance = random.Random(7)
        for _ in range(60):
            by = chance.choice([2, 3, MOST, MOST - 1, chance.randint(2, MOST), chance.randint(2, 10 ** 30)])
            shift = min(400, by.bit_length() + chance.randint(90, 199))
            times = min(MOST, (1 << shift) // by + chance.choice([0, 1, 1]))
            divider = Divider(by, times, chance.choice([0, 0, chance.randint(0, 10 ** 30)]), shift)
            start = chance.choice([0, chance.randint(0, MOST)])
            wrong = divider_wrong(divider, start)
            if wrong is not None and wrong <= MOST:
                self.assertFalse(divider_right(divider, wrong))
                before = divider_many(divider, start - 1) if start else 0
                self.assertEqual(divider_many(divider, wrong), before + 1)
                right = divider_next(divider, wrong)
                if right is not None and right <= MOST:
                    self.assertTrue(divider_right(divider, right))
                    self.assertEqual(divider_many(divider, right) - divider_many(divider, wrong), right - wrong - 1)
            elif start == 0:
                self.assertEqual(divider_many(divider, MOST), 0)

    def test_times_for(self):
        for by in range(2, 9):
            for top in range(1, 26):
                for shift in range(0, 9):
                    able = [times for times in range(2 * (1 << shift) + 2)
                            if all(x * times >> shift == x // by for x in range(top + 1))]
                    owed = (able[0], able[-1]) if able else None
                    self.assertEqual(times_for(by, top, shift), owed, (by, top, shift))
                least = [shift for shift in range(30) if times_for(by, top, shift) is not None][0]
                self.assertEqual(least_shift(by, top), least)

    def test_one_number_of_times_alone_or_none(self):
        self.assertEqual([times_for(7, top, 16) for top in (13109, 13110, 13103)], [(9363, 9363), None, (9363, 9363)])
        by, top = 10 ** 30 + 57, 10 ** 50
        shift = least_shift(by, top)
        low, high = times_for(by, top, shift)
        self.assertIsNone(times_for(by, top, shift - 1))
        for times, is_right in ((low, True), (high, True), (low - 1, False), (high + 1, False)):
            wrong = divider_wrong(Divider(by, times, 0, shift), 0)
            self.assertEqual(wrong is None or wrong > top, is_right)
        self.assertEqual(times_for(5, 4, 3), (0, 1))
        self.assertEqual(times_for(MOST, 1, 0), (0, 0))

    def test_equal(self):
        self.assertEqual(Divider(7, 1, 2, 3), Divider(7, 1, 2, 3))
        for other in (Divider(8, 1, 2, 3), Divider(7, 2, 2, 3), Divider(7, 1, 1, 3), Divider(7, 1, 2, 4), None, 7):
            self.assertFalse(Divider(7, 1, 2, 3) == other)

    def test_errors(self):
        good = (7, 1, 2, 3)
        for at, bad in enumerate([[1, 0, -1, MOST + 1], [-1, MOST + 1], [-1, MOST + 1], [-1, 401]]):
            for value in bad + NO_INTEGERS:
                # What comes behind the first wrong one does not count.
                arguments = good[:at] + (value,) + ("x",) * (3 - at)
                self.assertEqual(error_of(Divider, *arguments), ("BadNumber", value))
        divider = Divider(MOST, MOST, MOST, 400)
        for value in [-1, MOST + 1, *NO_INTEGERS]:
            for name in ("divider_right", "divider_wrong", "divider_next", "divider_many"):
                self.assertEqual(error_of(getattr(dividers, name), divider, value), ("BadNumber", value))
            self.assertEqual(error_of(divider.quotient, value), ("BadNumber", value))
        for value in [0, -1, MOST + 1, *NO_INTEGERS]:
            self.assertEqual(error_of(times_for, 7, value, -1), ("BadNumber", value))
            self.assertEqual(error_of(least_shift, 7, value), ("BadNumber", value))
        for value in [1, MOST + 1, *NO_INTEGERS]:
            self.assertEqual(error_of(times_for, value, 0, -1), ("BadNumber", value))
            self.assertEqual(error_of(least_shift, value, 0), ("BadNumber", value))
        for value in [-1, 401, *NO_INTEGERS]:
            self.assertEqual(error_of(times_for, 7, 1, value), ("BadNumber", value))


if __name__ == "__main__":
    unittest.main()
