"""Promises [4], [9] to [11]: thousands of questions about roundings and heads of chance, answered right and soon."""

import random
import time
import unittest

from asking import in_time
from headmakers import GOOD_TEXTS, HEAD_KINDS, Chance
from roundingmakers import PROMISES, broken_at, rounding_of
from tagblocks import headsoon, headverdicts
from tagblocks.headcodes import HeadCode
from tagblocks.headrules import HeadRules
from tagblocks.heads import Heads, Rounding

# For one question, and on the average for one of all questions of a test.
MOST = 10
MEAN = 0.02


class Asked(unittest.TestCase):
    def setUp(self):
        self.spent, self.many = 0, 0

    def ask(self, question, *arguments):
        start = time.monotonic()
        told = in_time(MOST, question, *arguments)
        self.spent, self.many = self.spent + time.monotonic() - start, self.many + 1
        return told

    def check_time(self, least):
        self.assertGreaterEqual(self.many, least)
        self.assertLess(self.spent, MEAN * self.many)


def samples(chance, low, found, top):
    """Some numbers from one on and below another one that was found, or all that there are."""
    high = top if found is None else found
    near = [low + k for k in range(6)] + [high - 1 - k for k in range(6)]
    drawn = [chance.randrange(1 << chance.randint(1, top.bit_length())) for _ in range(12)]
    return [n for n in near + drawn if low <= n < high]


class RoundingsTest(Asked):
    def check_least(self, holds, found, low, top, chance):
        if found is not None:
            self.assertTrue(low <= found < top and holds(found), found)
        for n in samples(chance, low, found, top):
            self.assertFalse(holds(n), n)

    def check(self, rounding, other, chance):
        """Asks all questions about a rounding; the answers are held against plays on plain numbers."""
        top = 1 << rounding.rules.wide
        low = chance.choice([0, 0, chance.randrange(top), top - 1 - chance.randrange(20)])
        kept = self.ask(headverdicts.round_kept, rounding)
        for promise in PROMISES:
            least = self.ask(headverdicts.round_break, rounding, promise, 0)
            self.assertEqual(promise in kept, least is None)
            self.check_least(lambda n: promise in broken_at(rounding, n), least, 0, top, chance)
        wrong = self.ask(headverdicts.round_wrong, rounding, low)
        self.check_least(lambda n: broken_at(rounding, n) != (), wrong, low, top, chance)
        right = self.ask(headverdicts.round_right, rounding, low)
        self.check_least(lambda n: broken_at(rounding, n) == (), right, low, top, chance)
        parting = self.ask(headverdicts.round_parting, rounding, other)
        self.check_least(lambda n: rounding.size_for(n) != other.size_for(n), parting, 0, top, chance)
        self.assertEqual(self.ask(headverdicts.round_alike, rounding, other), parting is None)

    def check_many(self, sort, many, wides):
        chance = random.Random(f"{sort} 28")
        for _ in range(many):
            rounding = rounding_of(chance, sort, wides)
            other = rounding_of(chance, sort, (rounding.rules.wide,))
            other = Rounding(rounding.rules, chance.choice([other.code, rounding.code]))
            with self.subTest(text=rounding.code.text, rules=vars(rounding.rules)):
                self.check(rounding, other, chance)
        self.check_time(9 * many)

    def test_as_people_write_them(self):
        self.check_many("written", 250, (8, 12, 16, 24, 32, 48, 63, 64))

    def test_slips(self):
        self.check_many("slip", 250, (8, 12, 16, 24, 32, 48, 63, 64))

    def test_ifs_in_and_behind_one_another(self):
        self.check_many("nested", 500, (16, 20, 32, 48, 64))

    def test_a_test_within_a_test(self):
        for wide in (16, 32, 48, 64):
            for outer in ("a <= n", "a < n", "not n < a"):
                for limit in (16, 30, 31, 32, 1 << wide // 2, 1 << wide - 1):
                    text = f"a = n + 31\nif {outer}\nif a < {limit}\nno\nend\nend\nsize = a\nif size < 2\nsize = 2\nend"
                    rounding = Rounding(HeadRules(1, 2, 31, wide, wide), HeadCode("round", text))
                    # what wraps to the limit and more is told though it is too small
                    wrong = (1 << wide) - 31 + limit if limit < 31 else None
                    with self.subTest(wide=wide, outer=outer, limit=limit):
                        kept = tuple([promise for promise in PROMISES if promise != "enough" or wrong is None])
                        self.assertEqual(self.ask(headverdicts.round_kept, rounding), kept)
                        self.assertEqual(self.ask(headverdicts.round_wrong, rounding, 57), wrong)
                        self.assertEqual(self.ask(headverdicts.round_break, rounding, "enough", 0), wrong)
                        self.assertEqual(self.ask(headverdicts.round_right, rounding, 57), 57)
        self.check_time(200)

    def test_all_lengths_of_narrow_words(self):
        chance = random.Random(27)
        for sort in ("written", "slip", "nested") * 25:
            rounding = rounding_of(chance, sort, (8, 9))
            words = range(1 << rounding.rules.wide)
            found = [broken_at(rounding, n) for n in words]
            low = chance.choice([0, chance.choice(words)])
            with self.subTest(text=rounding.code.text, rules=vars(rounding.rules), low=low):
                for promise in PROMISES:
                    self.assertEqual(headverdicts.round_break(rounding, promise, low),
                                     min([n for n in words[low:] if promise in found[n]], default=None))
                self.assertEqual(headverdicts.round_wrong(rounding, low), min([n for n in words[low:] if found[n]], default=None))
                self.assertEqual(headverdicts.round_right(rounding, low),
                                 min([n for n in words[low:] if not found[n]], default=None))

    def test_the_questions_of_the_issue(self):
        rounding = Rounding(HeadRules(8, 40, 4, 64, 64), HeadCode(
            "round", "if 4022177523538460713 < n\nno\nend\na = n + 11\nif a < n\nno\nend\nsize = a &~ 7\nif size < 40\nsize = 40\n"
            "end"))
        page = Rounding(HeadRules(4096, 8192, 9, 64, 64), HeadCode(
            "round", "a = n + 4104\nif a < n\nno\nend\nsize = a &~ 4095\nif size < 8192\nsize = 8192\nend"))
        rest = Rounding(HeadRules(16, 48, 7, 64, 64), HeadCode(
            "round", "a = n + 7\nif a <= n\nno\nend\nc = a & 15\nsize = a - c\nif not c is 0\nsize = size + 16\nif size is 0\nno\n"
            "end\nend\nif size < 48\nsize = 48\nend"))
        odd = Rounding(HeadRules(4, 4, 1, 32, 32), HeadCode(
            "round", "a = n + 1\nif a < n\nno\nend\nsize = a\nif size < 4\nsize = 4\nend"))
        for _ in range(20):
            self.assertEqual(self.ask(headverdicts.round_kept, rounding), ("even", "enough", "tight"))
            self.assertEqual(self.ask(headverdicts.round_wrong, rounding, 0), 4022177523538460714)
            self.assertEqual(self.ask(headverdicts.round_right, rounding, 0), 0)
            self.assertEqual(self.ask(headverdicts.round_kept, page), PROMISES)
            self.assertIsNone(self.ask(headverdicts.round_wrong, page, 0))
            self.assertIsNone(self.ask(headverdicts.round_break, rest, "enough", 2515970621359224181))
            self.assertEqual(self.ask(headverdicts.round_wrong, odd, 176), 176)
        self.check_time(100)


class HeadsTest(Asked):
    def heads(self, chance):
        wide = chance.choice([16, 20, 32, 48, 64])
        unit = 1 << chance.randint(2, 12)
        codes = []
        for kind in HEAD_KINDS:
            text = chance.choice(GOOD_TEXTS[kind])
            sort = chance.random()
            if sort < 0.1:
                codes.append(Chance(chance, wide).slip(kind, text))
            else:
                codes.append(Chance(chance, wide).code(kind, 14) if sort < 0.2 else HeadCode(kind, text))
        return Heads(HeadRules(unit, unit * chance.choice([1, 2, 3]), 1, wide, chance.choice([wide, wide, wide - 1])), codes)

    def broken_at(self, heads, promise, size):
        """Whether a promise is broken at a size, told by the words of the document."""
        for used, ahead in ((0, 0), (0, 1), (1, 0), (1, 1)):
            word = heads.word_of(size, used, ahead)
            told = {"inside": word < 1 << heads.rules.field, "size": heads.read("size", word) == size,
                    "used": heads.read("used", word) == used, "ahead": heads.read("ahead", word) == ahead,
                    "marks": [heads.read(kind, word) for kind in ("use", "free", "meet", "part")] == [
                        heads.word_of(size, *flags) for flags in ((1, ahead), (0, ahead), (used, 1), (used, 0))]}
            if not told[promise]:
                return True
        return False

    def test_heads(self):
        chance = random.Random(29)
        for _ in range(200):
            heads = self.heads(chance)
            sizes = [heads.rules.next_in_use(n) for n in (0, 1, chance.randrange(1 << heads.rules.wide), 5 * heads.rules.unit)]
            sizes = [size for size in sizes if size is not None]
            with self.subTest(texts=[code.text for code in heads.codes], rules=vars(heads.rules)):
                kept = self.ask(headverdicts.head_kept, heads)
                least = [self.ask(headverdicts.head_break, heads, promise, 0) for promise in headverdicts.HEAD_PROMISES]
                for promise, found in zip(headverdicts.HEAD_PROMISES, least):
                    self.assertEqual(promise in kept, found is None)
                    self.assertEqual(self.ask(headverdicts.head_case, heads, promise) is None, found is None)
                    for size in sizes + [found] * (found is not None):
                        is_early = found is None or size < found
                        self.assertFalse(is_early and self.broken_at(heads, promise, size))
                    self.assertTrue(found is None or self.broken_at(heads, promise, found))
                wrong = self.ask(headverdicts.head_wrong, heads, 0)
                self.assertEqual(wrong, min([found for found in least if found is not None], default=None))
                right = self.ask(headverdicts.head_right, heads, 0)
                if wrong != heads.rules.least:
                    self.assertEqual(right, heads.rules.least)
                else:
                    self.assertNotEqual(right, heads.rules.least)
        self.check_time(2000)


class TwoWaysTest(unittest.TestCase):
    """Questions that are given up are asked of open bits; both ways tell the same."""

    def setUp(self):
        self.most = headsoon.MOST_WAYS

    def tearDown(self):
        headsoon.MOST_WAYS = self.most

    def all_told(self, rounding, other, low):
        return [headverdicts.round_kept(rounding), headverdicts.round_wrong(rounding, low),
                headverdicts.round_right(rounding, low), headverdicts.round_parting(rounding, other),
                *[headverdicts.round_break(rounding, promise, low) for promise in PROMISES]]

    def test_both_ways_tell_the_same(self):
        chance = random.Random(30)
        for sort in ("slip", "nested") * 20:
            rounding = rounding_of(chance, sort, (8, 16, 32))
            other = Rounding(rounding.rules, rounding_of(chance, sort, (rounding.rules.wide,)).code)
            low = chance.randrange(1 << rounding.rules.wide)
            with self.subTest(text=rounding.code.text, rules=vars(rounding.rules), low=low):
                headsoon.MOST_WAYS = self.most
                soon = self.all_told(rounding, other, low)
                headsoon.MOST_WAYS = 0
                self.assertEqual(self.all_told(rounding, other, low), soon)

    def test_parts_of_what_was_carried(self):
        # what n << 43 carries is a number of its own, whose twos are parted by the next lines
        code = HeadCode("round", "c = n << 43\nb = size + n + c >> 33\nsize = b - n + a | 18014397972611072")
        rounding = Rounding(HeadRules(8, 32, 8, 64, 64), code)
        for most in (self.most, 100 * self.most):
            headsoon.MOST_WAYS = most
            self.assertEqual(headverdicts.round_break(rounding, "even", 0), 1)
            self.assertEqual(headverdicts.round_kept(rounding), ("full",))

    def test_a_code_that_mixes_its_words(self):
        code = HeadCode("round", "b = n << 31\nb = n + b &~ 274869518336\nsize = b + n | 270215977642229760\na = size >> 17\n"
                        "size = size + a ^ 4080")
        rounding = Rounding(HeadRules(8, 32, 8, 64, 64), code)
        question = headsoon.RoundBreak(rounding, "enough")
        is_told, _ = headsoon.least_soon(question, 1 << 40, (1 << 64) - 1, 1)
        found = in_time(MOST, headverdicts.round_break, rounding, "enough", 1 << 40)
        self.assertFalse(is_told)
        self.assertTrue("enough" in broken_at(rounding, found))
        for n in samples(random.Random(1), 1 << 40, found, 1 << 64):
            self.assertFalse("enough" in broken_at(rounding, n))


if __name__ == "__main__":
    unittest.main()
