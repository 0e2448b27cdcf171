"""Open numbers: quotients, rows that are needed, points at which rows hold, and what is given up."""

import random
import unittest

from tagblocks.opennumbers import OpenNumbers, worth_at
from tagblocks.solving import Solved, SolvedSoon
from tagblocks.systems import table_of
from tagblocks.wordnumbers import WordNumbers


def chance_form(chance, names, most):
    form = {name: chance.randint(-most, most) for name in names if chance.random() < 0.7}
    return {0: chance.randint(-3 * most, 3 * most), **{name: factor for name, factor in form.items() if factor}}


class QuotientsTest(unittest.TestCase):
    def test_a_quotient_is_told_at_each_point(self):
        chance = random.Random(1)
        for _ in range(300):
            points = [{1: chance.randint(0, 90), 2: chance.randint(-50, 50)} for _ in range(5)]
            numbers = OpenNumbers({1: 0, 2: None}, {1: 90, 2: None}, [], [], Solved(), points)
            form, divisor = chance_form(chance, (1, 2), 200), chance.randint(2, 60)
            told = numbers.quotient(form, divisor)
            again = numbers.quotient(form, divisor)
            self.assertEqual(told, again)
            for point in numbers.points:
                self.assertEqual(worth_at(told, point), worth_at(form, point) // divisor)
                for row in numbers.whole_rows([]):
                    self.assertGreaterEqual(worth_at(row, point), 0)

    def test_no_name_where_all_is_divided(self):
        numbers = OpenNumbers({1: 0}, {1: 100}, [], [], Solved())
        self.assertEqual(numbers.quotient({0: 7, 1: 46}, 23), {0: 0, 1: 2})
        self.assertEqual(numbers.quotient({0: -1, 1: 46}, 23), {0: -1, 1: 2})
        self.assertEqual(numbers.quotient({0: 0, 1: 24}, 5000), {0: 0})
        self.assertEqual(list(numbers.meanings), [])
        self.assertEqual(numbers.quotient({0: 0, 1: 24}, 23), {0: 0, 1: 1, 2: 1})
        self.assertEqual(list(numbers.meanings), [2])

    def test_words_are_parted(self):
        chance = random.Random(2)
        for _ in range(100):
            points = [{1: chance.randrange(4096)} for _ in range(5)]
            numbers = WordNumbers({1: 0}, {1: 4095}, [], [], Solved(), points)
            form, power = {0: chance.randrange(99), 1: chance.choice([1, 2, 3, 6])}, chance.randint(1, 14)
            told = numbers.moved_down(form, power)
            numbers.can_be([])
            self.assertTrue(numbers.is_lost or numbers.can_be([]))
            for point in numbers.points:
                self.assertEqual(worth_at(told, point), worth_at(form, point) >> power)


class NeededTest(unittest.TestCase):
    def test_what_is_left_out_is_not_needed(self):
        chance = random.Random(3)
        for _ in range(200):
            numbers = OpenNumbers({1: 0, 2: 0, 3: 0}, {1: 40, 2: 30, 3: None}, [], [], Solved())
            forms = [numbers.quotient(chance_form(chance, (1, 2, 3), 9), chance.randint(2, 9)) for _ in range(3)]
            row = {**chance_form(chance, (1, 2), 9)}
            row = chance.choice([row, {**forms[0], 1: chance.randint(1, 3)}, {**forms[1], 0: -chance.randint(0, 20)}])
            solved = Solved()
            self.assertEqual(solved.can_hold(numbers.needed_rows([row])), solved.can_hold(numbers.whole_rows([row])))

    def test_points_tell_what_rows_do(self):
        chance = random.Random(4)
        for _ in range(200):
            points = [{1: chance.randint(0, 20), 2: chance.randint(0, 20)} for _ in range(4)]
            start = [chance_form(chance, (1, 2), 3)]
            known = OpenNumbers({1: 0, 2: 0}, {1: 20, 2: 20}, [], start, Solved(), points)
            plain = OpenNumbers({1: 0, 2: 0}, {1: 20, 2: 20}, [], start, Solved())
            for _ in range(4):
                one, other = chance_form(chance, (1, 2), 3), chance_form(chance, (1,), 5)
                self.assertEqual(known.below(one, other), plain.below(one, other))
                self.assertEqual(known.is_lost, plain.is_lost)
            self.assertEqual([trail for trail, _ in known.waiting], [trail for trail, _ in plain.waiting])


class GivenUpTest(unittest.TestCase):
    def test_answers_within_what_is_let(self):
        chance = random.Random(5)
        for _ in range(200):
            rows = [chance_form(chance, (1, 2, 3), 20) for _ in range(5)] + [{0: 50, name: -1} for name in (1, 2, 3)]
            rows = rows + [{0: 9, name: 1} for name in (1, 2, 3)]
            soon = SolvedSoon(chance.choice([1, 3, 10, 1000]))
            told = soon.can_hold(rows)
            if not soon.is_given_up:
                self.assertEqual(told, Solved().can_hold(rows))
            elif soon.left <= 0:
                self.assertFalse(soon.can_hold([*rows, {0: 1, 1: 1, 2: 1, 3: 1}]))

    def test_rows_that_never_hold_take_nothing(self):
        soon = SolvedSoon(1)
        self.assertFalse(soon.can_hold([{0: -1}]))
        self.assertFalse(soon.is_given_up)
        self.assertIsNone(table_of([{0: -1}]))


if __name__ == "__main__":
    unittest.main()
