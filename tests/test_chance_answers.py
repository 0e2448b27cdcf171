"""Promises [4], [9], [11]: codes of chance in words of 64 bits have all their questions answered within a time."""

import random
import unittest

from asking import in_time
from headmakers import HEAD_KINDS, Chance
from tagblocks import headverdicts
from tagblocks.errors import BlockError
from tagblocks.headcodes import HeadCode
from tagblocks.headrules import HeadRules
from tagblocks.heads import Heads, Rounding

SECONDS = 120
RULES = HeadRules(8, 32, 8, 64, 64)
PROMISES = ("even", "enough", "tight", "full")


def chance_run(chance):
    high = chance.randint(1, 64)
    return (1 << high) - (1 << chance.randrange(high))


def chance_line(chance, told, is_signed):
    terms = []
    for _ in range(chance.choice([1, 2, 2, 3, 4])):
        term = chance.choice(["a", "b", "c", "n", "size", "n"])
        if chance.random() < 0.15:
            term = str(chance.randrange(1 << chance.randint(1, 64)))
        if term not in terms:
            terms.append(term)
    text = f"{told} = {terms[0]}" + "".join(chance.choice([" + ", " - "]) + term for term in terms[1:])
    if not is_signed:
        return text
    sign = chance.choice(["<<", ">>", "<<", ">>", "&", "&~", "|", "^"])
    return f"{text} {sign} {chance.randint(1, 63) if sign in ('<<', '>>') else chance_run(chance)}"


def mixed_code(chance):
    """A code of three to eight lines with three to six signs."""
    while True:
        many = chance.randint(3, 8)
        signed = chance.sample(range(many), chance.randint(3, min(6, many)))
        lines = [chance_line(chance, chance.choice(["a", "b", "c", "size"]) if at < many - 1 else "size", at in signed)
                 for at in range(many)]
        try:
            return HeadCode("round", "\n".join(lines))
        except BlockError:
            continue


def breaks(rounding, promise, n):
    """Whether a promise is broken at a length, told by the words of the document."""
    rules, told, wanted = rounding.rules, rounding.size_for(n), n + rounding.rules.over
    if told is None or promise == "full":
        return promise == "full" and told is None and wanted <= rules.last_size()
    if promise == "even":
        return not rules.in_use(told)
    if promise == "enough":
        return told < wanted
    return rules.in_use(told) and told >= wanted and told - rules.unit >= max(rules.least, wanted)


def samples(chance, least, below):
    """Some numbers from one on and below another one (or 2 ** 64)."""
    top = 1 << 64 if below is None else below
    near = [least + k for k in range(8)] + [top - 1 - k for k in range(8)]
    drawn = [chance.randrange(1 << chance.randint(1, 64)) for _ in range(60)]
    return [n for n in near + drawn if least <= n < top]


class RoundCodesOfChanceTest(unittest.TestCase):
    def check_least(self, holds, found, low, chance):
        if found is not None:
            self.assertTrue(found >= low and holds(found))
        for n in samples(chance, low, found):
            self.assertFalse(holds(n), n)

    def check_all(self, rounding, chance):
        low = chance.choice([0, 0, chance.randrange(1 << 64)])
        for promise in PROMISES:
            found = in_time(SECONDS, headverdicts.round_break, rounding, promise, low)
            self.check_least(lambda n: breaks(rounding, promise, n), found, low, chance)
            self.assertEqual(in_time(SECONDS, headverdicts.round_keeps, rounding, promise),
                             in_time(SECONDS, headverdicts.round_break, rounding, promise, 0) is None)

        def is_wrong(n):
            return any(breaks(rounding, promise, n) for promise in PROMISES)
        self.check_least(is_wrong, in_time(SECONDS, headverdicts.round_wrong, rounding, low), low, chance)
        self.check_least(lambda n: not is_wrong(n), in_time(SECONDS, headverdicts.round_right, rounding, low), low, chance)

    def test_mixed_codes(self):
        chance = random.Random(14)
        for _ in range(40):
            self.check_all(Rounding(RULES, mixed_code(chance)), chance)

    def test_codes_with_ifs(self):
        codes = Chance(random.Random(15), 64)
        for _ in range(20):
            rules = HeadRules(codes.random.choice([1, 16, 4096]), 4096, codes.random.choice([0, 5, 4096]), 64, 64)
            self.check_all(Rounding(rules, codes.code("round", 14)), codes.random)

    def test_partings(self):
        chance = random.Random(16)
        for _ in range(20):
            one, other = [Rounding(RULES, mixed_code(chance)) for _ in range(2)]
            found = in_time(SECONDS, headverdicts.round_parting, one, other)
            self.check_least(lambda n: one.size_for(n) != other.size_for(n), found, 0, chance)
            self.assertEqual(in_time(SECONDS, headverdicts.round_alike, one, other), found is None)

    def test_other_words_for_the_same(self):
        pairs = [("size = n + 15 << 9", "a = n << 4\na = a + 240\nsize = a << 5"),
                 ("a = n << 3\nb = a + n\nsize = b - 7", "b = n - 7\nc = n << 2\nc = c - n\na = n << 2\nsize = b + c + a + n"),
                 ("size = n &~ 4088", "a = n & 4088\nsize = n - a"), ("size = n | 4088", "a = n &~ 4088\nsize = a + 4088"),
                 ("a = n >> 5\nsize = a & 255", "a = n & 8160\nsize = a >> 5")]
        for one, other in pairs:
            ones = [Rounding(RULES, HeadCode("round", text)) for text in (one, other)]
            self.assertTrue(in_time(SECONDS, headverdicts.round_alike, *ones))
            parts = [ones[0], Rounding(RULES, HeadCode("round", other + f"\nif {2 ** 63 + 5} is n\nsize = size + 1\nend"))]
            self.assertEqual(in_time(SECONDS, headverdicts.round_parting, *parts), 2 ** 63 + 5)

    def test_deep_mixing(self):
        text = ("a = b - n >> 6\na = a + c + size >> 28\nb = n - a + b << 24\na = size + b >> 18\nsize = n + a >> 27\n"
                "size = b + size ^ 1044480")
        rounding = Rounding(HeadRules(1, 4096, 0, 64, 64), HeadCode("round", text))
        self.assertEqual(in_time(SECONDS, headverdicts.round_right, rounding, 1671), 8671714585294168528)
        self.assertEqual(in_time(SECONDS, headverdicts.round_kept, rounding), ("full",))


class HeadsOfChanceTest(unittest.TestCase):
    def test_heads(self):
        codes = Chance(random.Random(17), 64)
        rules = HeadRules(8, 16, 0, 64, 60)
        for _ in range(6):
            heads = Heads(rules, [codes.code(kind, 8) for kind in HEAD_KINDS])
            for promise in ("inside", "size", "used", "ahead", "marks"):
                case = in_time(SECONDS, headverdicts.head_case, heads, promise)
                self.assertEqual(case is None, promise in in_time(SECONDS, headverdicts.head_kept, heads))
            for question in (headverdicts.head_wrong, headverdicts.head_right):
                found = in_time(SECONDS, question, heads, 8 * codes.random.randrange(1 << 60))
                self.assertTrue(found is None or rules.in_use(found))


if __name__ == "__main__":
    unittest.main()
