"""Promises [36], [37], [80]: verdicts on moves, against playing all lengths to some bound and all gaps that matter."""

import random
import unittest

from asking import NO_INTEGERS, error_of
from movemakers import BACK, BOTH, DOWN, FOURS, FOURS_UP, PAIRS, SINGLES, TEXTS, UP, MoveChance, Replay
from tagblocks import moveverdicts
from tagblocks.classsets import ClassSet
from tagblocks.movecodes import MoveCode
from tagblocks.moverules import MoveRules

PROMISES = ("inside", "fresh", "whole", "once", "still")
PLAIN = MoveRules()
GREAT = 123456789012345678901234567890
MOST = 18


def first_from(numbers, least):
    return min([number for number in numbers if number >= least], default=None)


def span(length):
    """How far gaps are played: codes of these tests compare them with lengths and small numbers alone."""
    return 3 * length + 12


def broken_gaps(code):
    """For each promise a dict from the lengths at which it is broken to the gaps."""
    broken = {promise: {} for promise in PROMISES}
    for length in range(MOST):
        for gap in range(-span(length), span(length) + 1):
            if code.rules.in_use(length) and code.has_gap(length, gap):
                for promise in Replay(code, length, gap).broken():
                    broken[promise].setdefault(length, []).append(gap)
    return broken


class AllLengthsTest(unittest.TestCase):
    def check(self, code, chance):
        told = (code.kind, code.rules.unit, code.rules.head, code.text)
        broken = broken_gaps(code)
        lengths = [length for length in range(MOST) if code.rules.in_use(length)]
        for promise in PROMISES:
            found = [length for length in lengths if moveverdicts.move_break(code, promise, length) == length]
            self.assertEqual(found, sorted(broken[promise]), (promise, told))
            self.check_gaps(code, promise, broken[promise], chance.choice(lengths), chance)
            self.check_case(code, promise, broken[promise])
        wrong = {length for promise in PROMISES[:3] for length in broken[promise]}
        self.assertEqual(moveverdicts.move_wrongs(code, MOST - 1), len(wrong), told)
        for length in range(MOST):
            for question, numbers in ((moveverdicts.move_wrong, wrong), (moveverdicts.move_right, set(lengths) - wrong)):
                least, owed = question(code, length), first_from(numbers, length)
                self.assertTrue(least == owed or (owed is None and (least is None or least >= MOST)), told)

    def check_gaps(self, code, promise, broken, length, chance):
        start = chance.randint(-span(length), span(length))
        found, owed = moveverdicts.move_gap(code, promise, length, start), first_from(broken.get(length, []), start)
        self.assertTrue(found == owed or (owed is None and found > span(length)), (promise, length, start, found, code.text))

    def check_case(self, code, promise, broken):
        case = moveverdicts.move_case(code, promise)
        self.assertEqual(case is None, moveverdicts.move_keeps(code, promise))
        if case is not None:
            self.assertIn(promise, Replay(code, *case).broken())
            self.assertTrue(code.rules.in_use(case[0]) and code.has_gap(*case))
        if broken:
            self.assertEqual(case[0], min(broken), "a least move has the least length")

    def test_right_codes(self):
        for text, kind in TEXTS:
            for rules in (PLAIN, MoveRules(2, 1), MoveRules(16, 8)):
                self.check(MoveCode(kind, rules, text), random.Random(36))
            kept = moveverdicts.move_kept(MoveCode(kind, PLAIN, text))
            if text != PAIRS or kind != "any":
                self.assertEqual(kept[:2], ("inside", "fresh"), text)
            self.assertEqual("whole" in kept, text != SINGLES, text)

    def test_codes_with_slips(self):
        chance = MoveChance(random.Random(37))
        for _ in range(90):
            self.check(chance.code(4), chance.random)

    def test_steps_by_three_and_six(self):
        chance = MoveChance(random.Random(38), "136", ((1, 0), (3, 0), (3, 1), (6, 5), (12, 8)))
        for _ in range(40):
            self.check(chance.code(4), chance.random)


class OneByOneTest(unittest.TestCase):
    """Each promise alone, broken by one slip."""

    def kept(self, text, kind="any", rules=PLAIN):
        return moveverdicts.move_kept(MoveCode(kind, rules, text))

    def test_inside(self):
        self.assertEqual(self.kept(UP.replace("a < len", "a <= len"), "down"), ("fresh", "whole", "once", "still"))
        self.assertEqual(self.kept("to 0 = w1"), ("fresh", "whole", "once", "still"))
        self.assertEqual(self.kept("if len is 7\nw1 = from len\nend", "apart"), ("fresh", "once", "still"))
        code = MoveCode("any", PLAIN, "while not a is len\nw1 = from a\nto a = w1\na = a + 4\nend")
        self.assertEqual([moveverdicts.move_break(code, "inside", length) for length in (0, 4, 5, 10 ** 30)],
                         [1, 5, 5, 10 ** 30 + 1])
        self.assertEqual(moveverdicts.move_break(MoveCode("any", MoveRules(4), code.text), "inside", 0), None)

    def test_fresh(self):
        self.assertEqual(self.kept(UP, "up"), ("inside", "whole", "once"))
        self.assertEqual(self.kept(UP, "down"), ("inside", "fresh", "whole", "once"))
        self.assertEqual(self.kept(DOWN, "down"), ("inside", "whole", "once"))
        self.assertEqual(moveverdicts.move_case(MoveCode("down", PLAIN, DOWN), "fresh"), (2, -1))
        self.assertEqual(moveverdicts.move_gap(MoveCode("any", PLAIN, UP), "fresh", 9, 1), 1)
        self.assertEqual(moveverdicts.move_gap(MoveCode("any", PLAIN, UP), "fresh", 9, 8), 8)
        # What was written comes from just this address: gap 0, or a word that stays where it is.
        self.assertEqual(self.kept("if 0 < len\nw1 = from 0\nto 0 = w1\nw1 = from 0\nend", "apart")[:2], ("inside", "fresh"))
        code = MoveCode("any", PLAIN, "if len is 3 and gap is 1\nw1 = from 1\nto 0 = w1\nw2 = from 1\nend")
        self.assertNotIn("fresh", moveverdicts.move_kept(MoveCode("any", PLAIN, code.text.replace("w1 = from 1", "w1 = from 2"))))
        self.assertIn("fresh", moveverdicts.move_kept(code))

    def test_whole(self):
        code = MoveCode("down", PLAIN, FOURS)
        self.assertEqual(moveverdicts.move_kept(code), ("inside", "fresh", "once"))
        self.assertEqual([moveverdicts.move_right(code, length) for length in (0, 1, 4, 5)], [0, 4, 4, 8])
        self.assertEqual(moveverdicts.move_wrongs(code, 10 ** 30), 10 ** 30 // 4 * 3)
        self.assertEqual(moveverdicts.move_gap(code, "whole", 5, -9), -9)
        self.assertEqual(moveverdicts.move_gap(code, "whole", 5, 0), None)
        self.assertEqual(self.kept("", "any"), ("inside", "fresh", "once", "still"))
        self.assertEqual(moveverdicts.move_case(MoveCode("apart", PLAIN, ""), "whole")[0], 1)
        self.assertEqual(self.kept(UP.replace("w1 = from a\n", "w1 = from len - 1 - a\n"), "apart"), ("inside", "fresh", "once", "still"))
        # A later word mends what was wrong.
        self.assertIn("whole", self.kept("if 1 < len\nw1 = from 0\nto 1 = w1\nend\n" + UP, "apart"))

    def test_once_and_still(self):
        self.assertEqual(self.kept(UP + "\nif 0 < len\nw1 = from 0\nto 0 = w1\nend", "apart"), ("inside", "fresh", "whole", "still"))
        self.assertEqual(moveverdicts.move_break(MoveCode("any", PLAIN, UP), "still", 0), 1)
        self.assertEqual(moveverdicts.move_case(MoveCode("any", PLAIN, UP), "still"), (1, 0))
        self.assertEqual(self.kept(BOTH), PROMISES)

    def test_gaps_of_just_the_length(self):
        code = MoveCode("up", PLAIN, "if len < gap\n" + UP + "\nelse\n" + DOWN + "\nend")
        self.assertEqual(moveverdicts.move_kept(code), ("inside", "fresh", "whole", "once"))
        late = MoveCode("up", PLAIN, "if gap < len\n" + DOWN + "\nelse\n" + UP + "\nend")
        self.assertEqual(moveverdicts.move_kept(late), ("inside", "fresh", "whole", "once"))
        early = MoveCode("up", PLAIN, "a = gap + 1\nif a < len\n" + DOWN + "\nelse\na = 0\n" + UP + "\nend")
        self.assertEqual(moveverdicts.move_case(early, "fresh"), (2, 1))
        self.assertEqual([moveverdicts.move_gap(early, "fresh", 9, gap) for gap in (0, 8, 9)], [8, 8, None])

    def test_lengths_that_are_not_in_use(self):
        code = MoveCode("down", MoveRules(4, 1), FOURS.replace("b = 4", "b = 5"))
        self.assertEqual([moveverdicts.move_wrong(code, length) for length in (0, 4, 8)], [3, 7, 11])
        self.assertEqual(moveverdicts.move_wrongs(code, 10), 2)
        self.assertEqual(moveverdicts.move_kept(MoveCode("down", MoveRules(4), FOURS)), ("inside", "fresh", "whole", "once"))

    def test_great_numbers(self):
        code = MoveCode("any", PLAIN, f"if len < {GREAT}\n{BOTH}\nelse\n{UP}\nend")
        self.assertEqual(moveverdicts.move_kept(code), ("inside", "whole", "once"))
        self.assertEqual(moveverdicts.move_case(code, "fresh"), (GREAT, 1))
        self.assertEqual([moveverdicts.move_wrong(code, 5), moveverdicts.move_right(code, 5), moveverdicts.move_right(code, GREAT)],
                         [GREAT, 5, None])
        self.assertEqual(moveverdicts.move_wrongs(code, GREAT + 10), 11)
        code = MoveCode("down", PLAIN, FOURS_UP + f"\na = 0 - {GREAT}\nif gap is a and 0 < len\nw1 = from 0\nto 0 = w1\nend")
        self.assertEqual(moveverdicts.move_gap(code, "once", 9, -10 ** 40), -GREAT)
        self.assertEqual(moveverdicts.move_case(code, "once"), (1, -GREAT))
        self.assertEqual(moveverdicts.move_gap(code, "once", 9, 1 - GREAT), None)

    def test_eight_words_a_round(self):
        words = "\n".join(f"w{k + 1} = from a + {k}\nto a + {k} = w{k + 1}" if k else "w1 = from a\nto a = w1" for k in range(8))
        eights = f"b = 8\nwhile b <= len\n{words}\na = a + 8\nb = b + 8\nend\n"
        self.assertEqual(self.kept(eights + UP, "down"), ("inside", "fresh", "whole", "once"))
        self.assertEqual(self.kept(eights + UP, "apart", MoveRules(16, 8)), PROMISES)
        slip = MoveCode("down", PLAIN, eights.replace("to a + 5 = w6", "to a + 5 = w5") + UP)
        self.assertEqual((moveverdicts.move_kept(slip), moveverdicts.move_wrong(slip, 0)), (("inside", "fresh", "once"), 8))
        self.assertEqual(self.kept(BACK, "up"), ("inside", "fresh", "whole", "once"))


class ErrorsTest(unittest.TestCase):
    def test_errors(self):
        code = MoveCode("up", MoveRules(4, 1), "")
        for promise in ("safe", "", None, 1, True, [], ("inside",)):
            for name in ("move_keeps", "move_case"):
                self.assertEqual(error_of(getattr(moveverdicts, name), code, promise), ("BadPromise", promise))
            self.assertEqual(error_of(moveverdicts.move_break, code, promise, -1), ("BadPromise", promise))
            self.assertEqual(error_of(moveverdicts.move_gap, code, promise, -1, None), ("BadPromise", promise))
        for value in (-1, *NO_INTEGERS):
            self.assertEqual(error_of(moveverdicts.move_break, code, "inside", value), ("BadLength", value))
            for name in ("move_wrong", "move_right", "move_wrongs"):
                self.assertEqual(error_of(getattr(moveverdicts, name), code, value), ("BadLength", value))
        for value in (-1, 0, 1, 2, 4, *NO_INTEGERS):
            self.assertEqual(error_of(moveverdicts.move_gap, code, "inside", value, None), ("BadLength", value))
        for value in NO_INTEGERS:
            self.assertEqual(error_of(moveverdicts.move_gap, code, "inside", 3, value), ("BadGap", value))


class ClassSetTest(unittest.TestCase):
    def test_sets(self):
        chance = random.Random(80)
        for _ in range(400):
            stretches = []
            for _ in range(chance.randint(0, 6)):
                low = chance.randint(0, 30)
                high = None if chance.random() < 0.4 else low + chance.randint(0, 60)
                stretches.append((low, high, chance.choice([1, 2, 4, 8, 3, 6])))
            whole = {number for low, high, step in stretches for number in range(low, (600 if high is None else high) + 1, step)}
            found = ClassSet(stretches)
            for number in (0, 1, 7, 30, 55, 90, 100):
                self.assertEqual(found.count_to(number), len([one for one in whole if one <= number]), stretches)
                self.assertEqual(found.first_number(number, True), first_from(whole, number), stretches)
                outside = [one for one in range(number, 600) if one not in whole]
                self.assertEqual(found.first_number(number, False), min(outside, default=None), stretches)


if __name__ == "__main__":
    unittest.main()
