"""Clauses, circuits and words of open bits, against going through all truths."""

import random
import unittest
from itertools import product

from tagblocks.bitwords import BitWords, are_same, is_below, plain_bits
from tagblocks.circuits import NO, YES, Circuit
from tagblocks.clauses import Clauses, luby


def holds(clauses, truths):
    return all(any(truths[one >> 1] != (one & 1 == 1) for one in clause) for clause in clauses)


class ClausesTest(unittest.TestCase):
    def test_luby(self):
        self.assertEqual([luby(at) for at in range(1, 16)], [1, 1, 2, 1, 1, 2, 4, 1, 1, 2, 1, 1, 2, 4, 8])

    def test_clauses_of_chance(self):
        chance = random.Random(1)
        for _ in range(400):
            many = chance.randint(1, 8)
            rows = [[chance.randrange(2 * many) for _ in range(chance.randint(1, 3))] for _ in range(chance.randint(1, 36))]
            clauses = Clauses()
            for _ in range(many):
                clauses.new_truth()
            for row in rows:
                clauses.add(sorted(set(row)))
            for wanted in ([], [chance.randrange(2 * many)], chance.sample(range(2 * many), 2), []):
                able = [truths for truths in product([False, True], repeat=many)
                        if holds(rows + [[one] for one in wanted], truths)]
                found = clauses.search(wanted)
                self.assertEqual(found, len(able) > 0, (rows, wanted))
                if found:
                    truths = [clauses.worths[2 * one] > 0 for one in range(many)]
                    self.assertTrue(holds(rows + [[one] for one in wanted], truths))
                clauses.cancel(0)

    def test_many_dead_ends(self):
        """Eight things do not go into seven places: thousands of dead ends, so that clauses are dropped again."""
        clauses = Clauses()
        truths = {(one, place): clauses.new_truth() for one in range(8) for place in range(7)}
        for one in range(8):
            clauses.add([2 * truths[one, place] for place in range(7)])
        for place in range(7):
            for one in range(8):
                for other in range(one):
                    clauses.add([2 * truths[one, place] + 1, 2 * truths[other, place] + 1])
        self.assertTrue(clauses.search([2 * truths[0, 0]]) is False or clauses.is_lost)
        clauses.cancel(0)
        self.assertFalse(clauses.search([]))


class CircuitTest(unittest.TestCase):
    def worth(self, circuit, literal, inputs, known):
        """What a literal is, told by clauses: both the literal and its opposite are asked."""
        wanted = [one if worth else one ^ 1 for one, worth in zip(inputs, known)]
        circuit.need(literal)
        told = []
        for one in (literal, literal ^ 1):
            told.append(circuit.clauses.search([*wanted, one]))
            circuit.clauses.cancel(0)
        self.assertNotEqual(told[0], told[1])
        return told[0]

    def test_gates(self):
        circuit = Circuit()
        inputs = [circuit.open_truth() for _ in range(3)]
        parts = [YES, NO, *inputs, *[one ^ 1 for one in inputs]]
        gates = [(one, two, three) for one in parts for two in parts for three in parts]
        for known in product([False, True], repeat=3):
            worths = dict(zip(parts, [True, False, *known, *[not one for one in known]]))
            for one, two, three in random.Random(2).sample(gates, 60):
                x, y, z = worths[one], worths[two], worths[three]
                wanted = [(circuit.both(one, two), x and y), (circuit.either(one, two), x or y), (circuit.unlike(one, two), x != y),
                          (circuit.odd(one, two, three), (x + y + z) % 2 == 1), (circuit.two_of(one, two, three), x + y + z > 1),
                          (circuit.choice(one, two, three), y if x else z), (circuit.any_of([one, two, three]), x or y or z),
                          (circuit.none_of([one, two]), not (x or y))]
                for literal, told in wanted:
                    self.assertEqual(self.worth(circuit, literal, inputs, known), told)

    def test_sums(self):
        chance = random.Random(3)
        for _ in range(12):
            wide = chance.randint(1, 7)
            words = BitWords(wide, Circuit())
            bits = [words.open_bits(chance.randint(1, 4)) for _ in range(2)]
            parts = [(chance.randint(-9, 9), words.of_bits(row)) for row in bits]
            parts.append((1, words.of_bits([bits[0][0] ^ 1, bits[1][0], YES, NO])))
            added = chance.randint(-9, 9)
            told = words.bits_of(words.sum_of([*parts, (1, {None: added})]))
            inputs = [*bits[0], *bits[1]]
            for known in product([0, 1], repeat=len(inputs)):
                if chance.random() < 0.3:
                    one, two = [sum(bit << at for at, bit in enumerate(row))
                                for row in (known[:len(bits[0])], known[len(bits[0]):])]
                    last = 1 - known[0] + 2 * known[len(bits[0])] + 4
                    owed = (parts[0][0] * one + parts[1][0] * two + last + added) % (1 << wide)
                    found = [self.worth(words.circuit, bit, inputs, known) for bit in told]
                    self.assertEqual(sum(1 << at for at, bit in enumerate(found) if bit), owed)

    def test_comparisons(self):
        circuit = Circuit()
        for one, other in product(range(9), repeat=2):
            self.assertEqual(is_below(circuit, plain_bits(one), plain_bits(other)), YES if one < other else NO)
            self.assertEqual(are_same(circuit, plain_bits(one), plain_bits(other)), YES if one == other else NO)

    def test_equal_sums_are_one(self):
        words = BitWords(64, Circuit())
        n = words.of_bits(words.open_bits(64))
        one = words.sum_of([(1 << 9, n), (3, {None: 5})])
        other = words.sum_of([(1 << 8, n), (5, {None: 3}), (1 << 8, n)])
        self.assertEqual((one, words.bits_of(one)), (other, words.bits_of(other)))


if __name__ == "__main__":
    unittest.main()
