"""Promises [2], [10], [11], [75], [76]: verdicts on heads and roundings, against going through all words of 8 bits."""

import random
import unittest

from asking import NO_INTEGERS, error_of
from headmakers import GOOD_TEXTS, HEAD_KINDS, Chance, heads_of
from tagblocks import headverdicts
from tagblocks.headcodes import HeadCode
from tagblocks.headrules import HeadRules
from tagblocks.heads import Heads, Rounding

HEAD_PROMISES = ("inside", "size", "used", "ahead", "marks")
ROUND_PROMISES = ("even", "enough", "tight", "full")
CAREFUL = "a = n + 15\nif a < n\nno\nend\nsize = a &~ 7\nif size < 32\nsize = 32\nend"


def first_from(numbers, least):
    """The least one of some numbers from one on, or None."""
    return min([number for number in numbers if number >= least], default=None)


def head_cases(heads):
    """For each promise the cases that break it, of all sizes in use and all flags."""
    rules = heads.rules
    broken = {promise: [] for promise in HEAD_PROMISES}
    for size in range(rules.least, 1 << rules.wide, rules.unit):
        for used, ahead in ((0, 0), (0, 1), (1, 0), (1, 1)):
            word = heads.word_of(size, used, ahead)
            owed = [("use", 1, ahead), ("free", 0, ahead), ("meet", used, 1), ("part", used, 0)]
            breaks = {
                "inside": word >= 1 << rules.field,
                "size": heads.read("size", word) != size,
                "used": heads.read("used", word) != used,
                "ahead": heads.read("ahead", word) != ahead,
                "marks": any(heads.read(kind, word) != heads.word_of(size, one, two) for kind, one, two in owed),
            }
            for promise in HEAD_PROMISES:
                if breaks[promise]:
                    broken[promise].append((size, used, ahead))
    return broken


def round_lengths(rounding):
    """For each promise the lengths that break it, of all words."""
    rules = rounding.rules
    sizes = range(rules.least, 1 << rules.wide, rules.unit)
    broken = {promise: [] for promise in ROUND_PROMISES}
    for n in range(1 << rules.wide):
        told = rounding.size_for(n)
        wanted = n + rules.over
        if told is None:
            breaks = {"full": sizes[-1] >= wanted}
        else:
            lesser = any(size >= wanted for size in sizes if size < told)
            breaks = {"even": told not in sizes, "enough": told < wanted,
                      "tight": told in sizes and told >= wanted and lesser}
        for promise in ROUND_PROMISES:
            if breaks.get(promise):
                broken[promise].append(n)
    return broken


class AllWordsTest(unittest.TestCase):
    def check_heads(self, heads, starts):
        broken = head_cases(heads)
        wrong = {size for cases in broken.values() for size, _, _ in cases}
        sizes = range(heads.rules.least, 1 << heads.rules.wide, heads.rules.unit)
        texts = [code.text for code in heads.codes]
        for promise, cases in broken.items():
            self.assertEqual(headverdicts.head_keeps(heads, promise), not cases, (promise, texts))
            self.assertEqual(headverdicts.head_case(heads, promise), min(cases, default=None), (promise, texts))
            for start in starts:
                self.assertEqual(headverdicts.head_break(heads, promise, start),
                                 first_from([size for size, _, _ in cases], start), (promise, texts))
        self.assertEqual(headverdicts.head_kept(heads), tuple([one for one in HEAD_PROMISES if not broken[one]]))
        for start in starts:
            self.assertEqual(headverdicts.head_wrong(heads, start), first_from(wrong, start), texts)
            self.assertEqual(headverdicts.head_right(heads, start), first_from(set(sizes) - wrong, start), texts)

    def check_rounding(self, rounding, starts):
        broken = round_lengths(rounding)
        wrong = {n for lengths in broken.values() for n in lengths}
        text = rounding.code.text
        for promise, lengths in broken.items():
            self.assertEqual(headverdicts.round_keeps(rounding, promise), not lengths, (promise, text))
            for start in starts:
                self.assertEqual(headverdicts.round_break(rounding, promise, start), first_from(lengths, start), text)
        self.assertEqual(headverdicts.round_kept(rounding), tuple([one for one in ROUND_PROMISES if not broken[one]]))
        for start in starts:
            self.assertEqual(headverdicts.round_wrong(rounding, start), first_from(wrong, start), text)
            self.assertEqual(headverdicts.round_right(rounding, start), first_from(set(range(256)) - wrong, start), text)

    def test_right_heads(self):
        for texts in ({kind: rows[-1] for kind, rows in GOOD_TEXTS.items()}, {}):
            for rules in (HeadRules(4, 4, 0, 8, 8), HeadRules(8, 16, 3, 8, 6), HeadRules(2, 4, 0, 8, 8)):
                heads = heads_of(rules, **{kind: HeadCode(kind, text) for kind, text in texts.items()})
                self.check_heads(heads, (0, 17, 63, 64, 248, 255, 256, 10 ** 40))

    def test_heads_with_slips(self):
        chance = Chance(random.Random(1), 8)
        for _ in range(60):
            unit = chance.random.choice([1, 2, 4, 4, 8, 8, 16])
            rules = HeadRules(unit, unit * chance.random.randint(1, 4), 0, 8, chance.random.choice([8, 8, 8, 6, 4, 2]))
            share = chance.random.random() * 0.6
            codes = []
            for kind in HEAD_KINDS:
                text = chance.random.choice(GOOD_TEXTS[kind])
                slipped = chance.random.random() < share
                codes.append(chance.slip(kind, text) if slipped else HeadCode(kind, text))
            self.check_heads(Heads(rules, codes), (0, chance.random.randrange(256)))

    def test_heads_of_chance(self):
        chance = Chance(random.Random(2), 8)
        for _ in range(15):
            heads = Heads(HeadRules(8, 8, 0, 8, 8), [chance.code(kind, 6) for kind in HEAD_KINDS])
            self.check_heads(heads, (0, chance.random.randrange(256)))

    def test_roundings(self):
        for text in (CAREFUL, CAREFUL.replace("no", "quit"), "size = n + 15 &~ 7", "size = n << 4", "size = 240", "no",
                     "size = n - 3 + a >> 2", "a = n >> 3\na = a + 2\nsize = a << 3", "if n < 200\nsize = n\nelse\nno\nend"):
            for rules in (HeadRules(8, 32, 8, 8, 8), HeadRules(1, 1, 0, 8, 8), HeadRules(16, 48, 300, 8, 8)):
                self.check_rounding(Rounding(rules, HeadCode("round", text)), (0, 1, 100, 224, 255, 256, 10 ** 40))

    def test_roundings_of_chance(self):
        chance = Chance(random.Random(3), 8)
        for _ in range(60):
            unit = chance.random.choice([1, 2, 4, 8, 16])
            rules = HeadRules(unit, unit * chance.random.randint(1, 15), chance.random.choice([0, 1, 8, 260]), 8, 8)
            ones = [Rounding(rules, chance.code("round", 8)) for _ in range(2)]
            self.check_rounding(ones[0], (0, chance.random.randrange(256)))
            parting = first_from([n for n in range(256) if ones[0].size_for(n) != ones[1].size_for(n)], 0)
            self.assertEqual(headverdicts.round_parting(*ones), parting)
            self.assertEqual(headverdicts.round_alike(*ones), parting is None)


class WideTest(unittest.TestCase):
    """Sizes near 2 ** wide, and flags that are packed at other places."""

    def test_size_that_loses_its_top(self):
        for wide, run in ((32, 2 ** 31 - 8), (64, 2 ** 63 - 8), (64, 2 ** 62 - 8)):
            rules = HeadRules(8, 16, 0, wide, wide)
            heads = heads_of(rules, size=HeadCode("size", f"size = word & {run}"))
            self.assertEqual(headverdicts.head_kept(heads), ("inside", "used", "ahead", "marks"))
            self.assertEqual(headverdicts.head_break(heads, "size", 0), run + 8)
            self.assertEqual(headverdicts.head_case(heads, "size"), (run + 8, 0, 0))
            self.assertEqual(headverdicts.head_right(heads, run + 8), None)
            self.assertEqual(headverdicts.head_break(heads, "size", 2 ** wide - 8), 2 ** wide - 8)
            self.assertEqual(headverdicts.head_break(heads, "size", 2 ** wide - 7), None)

    def test_flags_at_the_top(self):
        rules = HeadRules(8, 16, 0, 64, 64)
        texts = {"make": "a = size >> 3\nb = used << 63\nc = ahead << 62\nword = a + b + c",
                 "size": "a = word << 2\nsize = a << 1", "used": "used = word >> 63", "ahead": "a = word << 1\nahead = a >> 63",
                 "use": f"word = word | {2 ** 63}", "free": f"word = word &~ {2 ** 63}",
                 "meet": f"word = word | {2 ** 62}", "part": f"word = word &~ {2 ** 62}"}
        heads = Heads(rules, [HeadCode(kind, texts[kind]) for kind in HEAD_KINDS])
        self.assertEqual(headverdicts.head_kept(heads), HEAD_PROMISES)
        self.assertEqual((headverdicts.head_wrong(heads, 0), headverdicts.head_right(heads, 2 ** 64 - 9)), (None, 2 ** 64 - 8))
        narrow = Heads(HeadRules(8, 16, 0, 64, 63), heads.codes)
        self.assertEqual(headverdicts.head_case(narrow, "inside"), (16, 1, 0))

    def test_one_size_alone(self):
        heads = heads_of(HeadRules(8, 16, 0, 64, 64),
                         make=HeadCode("make", f"a = ahead << 1\nif size is {2 ** 63 + 8}\nquit\nend\nword = size + used + a"))
        self.assertEqual(headverdicts.head_kept(heads), ("inside",))
        self.assertEqual([headverdicts.head_wrong(heads, size) for size in (0, 2 ** 63 + 8, 2 ** 63 + 9)],
                         [2 ** 63 + 8, 2 ** 63 + 8, None])
        self.assertEqual(headverdicts.head_right(heads, 2 ** 63 + 1), 2 ** 63 + 16)

    def test_roundings(self):
        rules = HeadRules(8, 32, 8, 64, 64)
        careful = Rounding(rules, HeadCode("round", CAREFUL))
        wraps = Rounding(rules, HeadCode("round", CAREFUL.replace("if a < n\nno\nend\n", "")))
        self.assertEqual(headverdicts.round_kept(careful), ROUND_PROMISES)
        self.assertEqual(headverdicts.round_kept(wraps), ("even", "tight", "full"))
        self.assertEqual(headverdicts.round_parting(careful, wraps), 2 ** 64 - 15)
        early = Rounding(rules, HeadCode("round", CAREFUL.replace("a < n", f"{2 ** 60} <= n")))
        self.assertEqual(headverdicts.round_kept(early), ("even", "enough", "tight"))
        self.assertEqual(headverdicts.round_break(early, "full", 0), 2 ** 60)
        self.assertEqual(headverdicts.round_break(early, "full", 2 ** 64 - 16), 2 ** 64 - 16)
        self.assertEqual(headverdicts.round_break(early, "full", 2 ** 64 - 15), None)
        doubled = Rounding(rules, HeadCode("round", "size = n << 18"))
        self.assertEqual(headverdicts.round_break(doubled, "tight", 3), 3)
        self.assertEqual(headverdicts.round_break(doubled, "enough", 2), 2 ** 46)
        self.assertTrue(headverdicts.round_alike(doubled, Rounding(rules, HeadCode("round", "a = n << 9\nsize = a << 9"))))


class ErrorsTest(unittest.TestCase):
    def setUp(self):
        self.heads = heads_of(HeadRules(8, 16, 0, 8, 8))
        self.rounding = Rounding(HeadRules(8, 16, 0, 8, 8), HeadCode("round", ""))

    def test_promises(self):
        for one, names, promises in ((self.heads, ("head_keeps", "head_case"), ROUND_PROMISES),
                                     (self.rounding, ("round_keeps",), HEAD_PROMISES)):
            for promise in (*promises, "", None, 1, True, [], ("size",), {}, object()):
                for name in names:
                    self.assertEqual(error_of(getattr(headverdicts, name), one, promise), ("BadPromise", promise))
        for promise in ("even", None, []):
            self.assertEqual(error_of(headverdicts.head_break, self.heads, promise, -1), ("BadPromise", promise))
        for promise in ("inside", None, []):
            self.assertEqual(error_of(headverdicts.round_break, self.rounding, promise, -1), ("BadPromise", promise))

    def test_numbers(self):
        for value in (-1, *NO_INTEGERS):
            self.assertEqual(error_of(headverdicts.head_break, self.heads, "size", value), ("BadNumber", value))
            self.assertEqual(error_of(headverdicts.head_wrong, self.heads, value), ("BadNumber", value))
            self.assertEqual(error_of(headverdicts.head_right, self.heads, value), ("BadNumber", value))
            self.assertEqual(error_of(headverdicts.round_break, self.rounding, "even", value), ("BadNumber", value))
            self.assertEqual(error_of(headverdicts.round_wrong, self.rounding, value), ("BadNumber", value))
            self.assertEqual(error_of(headverdicts.round_right, self.rounding, value), ("BadNumber", value))

    def test_rules(self):
        other = Rounding(HeadRules(8, 16, 1, 8, 8), self.rounding.code)
        for name in ("round_alike", "round_parting"):
            self.assertEqual(error_of(getattr(headverdicts, name), self.rounding, other), ("OtherRules", "heads"))


if __name__ == "__main__":
    unittest.main()
