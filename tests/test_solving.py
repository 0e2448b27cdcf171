"""What verdicts stand on: systems of comparisons of sums, and sets of stretches, against going through all numbers."""

import itertools
import random
import unittest

from tagblocks.bitsolving import bits_can_hold
from tagblocks.solving import can_hold, can_hold_by_parts, stretches_of
from tagblocks.stretchsets import StretchSet
from tagblocks.systems import table_of


def ranges(many, top):
    """The rows that let each of some names be from 0 to a number."""
    rows = [{0: 0, name: 1} for name in range(1, many + 1)]
    return rows + [{0: top, name: -1} for name in range(1, many + 1)]


def row_of_chance(chance, many, added, factors):
    row = {0: chance.randint(-added, added)}
    for name in range(1, many + 1):
        if chance.random() < 0.85:
            row[name] = chance.choice([chance.randint(-factors, factors), 1 << chance.randrange(4)])
    return row


def system_of_chance(chance, many, top, added, factors):
    """Rows of chance, of which many come in pairs that leave little room."""
    rows = ranges(many, top)
    for _ in range(chance.randint(1, 4)):
        row = row_of_chance(chance, many, added, factors)
        rows.append(row)
        if chance.random() < 0.6:
            room = chance.choice([0, 1, 3, 7, 20])
            rows.append({name: room - worth if name == 0 else -worth for name, worth in row.items()})
    return rows


def solutions(rows, many, top):
    """All numbers for which the rows hold."""
    for numbers in itertools.product(range(top + 1), repeat=many):
        if all(sum(row.get(at + 1, 0) * number for at, number in enumerate(numbers)) + row[0] >= 0 for row in rows):
            yield numbers


class SystemsTest(unittest.TestCase):
    def test_numbers_of_a_name(self):
        chance = random.Random(11)
        for _ in range(400):
            many, top = chance.choice([(1, 12), (2, 12), (3, 6)])
            rows = system_of_chance(chance, many, top, 20, chance.choice([2, 5, 16]))
            found = set()
            for low, high, step in stretches_of(rows, 1):
                found |= set(range(low, high + 1, step))
            self.assertEqual(found, {numbers[0] for numbers in solutions(rows, many, top)}, rows)

    def test_whether_rows_can_hold(self):
        chance = random.Random(12)
        for _ in range(500):
            many, top = chance.choice([(2, 30), (3, 8)])
            rows = system_of_chance(chance, many, top, 200, chance.choice([9, 60, 300]))
            self.assertEqual(can_hold(rows), next(solutions(rows, many, top), None) is not None, rows)

    def test_both_ways_to_decide(self):
        """By parts as far as it takes, and by the bits of the names, told the same."""
        chance = random.Random(15)
        for _ in range(300):
            many, top = chance.choice([(2, 30), (3, 8)])
            rows = system_of_chance(chance, many, top, 200, chance.choice([9, 60, 300]))
            rows = rows + [{0: 3, 1: 1, many + 1: -4}, {0: 0, 1: -1, many + 1: 4}] if chance.random() < 0.5 else rows
            held = next((one for one in solutions([row for row in rows if many + 1 not in row], many, top)), None) is not None
            table = table_of(rows)
            self.assertEqual(can_hold_by_parts(table, None), held, rows)
            self.assertIn(can_hold_by_parts(table, 1), (held, None))
            if table is not None:
                self.assertEqual(bits_can_hold(table), held, rows)
        self.assertIsNone(bits_can_hold(table_of([{0: 0, 1: 1}, {0: 0, 1: 2, 2: -3}])))

    def test_numbers_without_end(self):
        rows = [{0: -4, 1: 1}, {0: -4, 2: 1}, {0: 1, 1: 3, 2: -2}, {0: -1, 1: -3, 2: 2}]
        self.assertEqual(stretches_of(rows, 1), [(5, None, 2)])
        self.assertTrue(can_hold(rows))
        self.assertFalse(can_hold([*rows, {0: 0, 1: 2, 2: -2}]))

    def test_hard_rows_of_great_numbers(self):
        """A few numbers near a line with great factors: splinters would never end."""
        top = (1 << 46) - 1
        factors = ((1 << 18) - 1, -(1 << 46))
        rows = [*ranges(2, top), {0: -8, 1: factors[0], 2: factors[1]}, {0: 15, 1: -factors[0], 2: -factors[1]}]
        self.assertTrue(can_hold(rows))
        self.assertFalse(can_hold([*rows, {0: 100, 2: -1}]))


class StretchSetTest(unittest.TestCase):
    def test_sets(self):
        chance = random.Random(13)
        for _ in range(400):
            stretches = []
            for _ in range(chance.randint(0, 6)):
                low = chance.randint(0, 30)
                high = None if chance.random() < 0.4 else low + chance.randint(0, 60)
                stretches.append((low, high, chance.choice([1, 1, 2, 3, 4, 5, 6, 7, 12])))
            whole = {number for low, high, step in stretches
                     for number in range(low, (600 if high is None else high) + 1, step)}
            found = StretchSet(stretches)
            for number in (0, 1, 7, 30, 55, 90, 100):
                self.assertEqual(found.count_to(number), len([one for one in whole if one <= number]), stretches)
                self.assertEqual(found.least_from(number), min([one for one in whole if one >= number], default=None))
                outside = [one for one in range(number, 600) if one not in whole]
                self.assertEqual(found.least_outside(number), min(outside, default=None), stretches)


if __name__ == "__main__":
    unittest.main()
