"""Promises [21], [22] and [77]: verdicts on block codes, against playing all cases of small sizes."""

import random
import unittest

from asking import NO_INTEGERS, error_of
from blockmakers import TEXTS, cases_of, slip
from tagblocks import blockverdicts
from tagblocks.blockcodes import BlockCode
from tagblocks.blockplay import play_block
from tagblocks.blockrules import BlockRules

PROMISES = ("inside", "whole", "tiles", "owed", "flags", "feet", "ring", "full")
KINDS = ("free", "take", "grow", "cut")
# Slips of which small sizes show everything: the kind, what stands in the text, and what stands there instead.
SLIPS = [
    ("free", "prev q = r\n", "", 1), ("free", "foot s = a\n", "", 1), ("free", "ahead free p\n", "", 1),
    ("free", "not ahead used own", "used own", 1), ("free", "a = a + b", "a = a + b + 1", 1),
    ("free", "head s = a free used", "head s = a free free", 1), ("free", "prev q = s", "", 1),
    ("take", "b < least", "b < 2", 1), ("take", "b < least", "b <= least", 1), ("take", "a < want", "a <= want", 1),
    ("take", "used own\n", "", 1), ("take", "no\n", "quit\n", 1), ("take", "foot s = b", "foot s = want", 1),
    ("grow", "b < want", "b <= want", 1), ("grow", "c < least", "c is 0", 1), ("grow", "ahead used s\n", "", 1),
    ("grow", "if used p", "if used own", 1), ("grow", "b = a + b", "b = a + b + unit", 1),
    ("grow", "size own = want", "head own = want used used", 1), ("grow", "p = own + a", "p = own + a\nused p", 1),
    ("cut", "b < least", "b < 1", 1), ("cut", "b is 0", "b < least", 1), ("cut", "ahead free p", "", 1),
    ("cut", "size own = want", "head own = want used used", 1), ("cut", "s = own + want", "s = own + want - 1", 1),
]


def changed(kind, old, new, many):
    """A text with a slip; a line that becomes empty goes."""
    text = TEXTS[kind].replace(old, new, many)
    return "\n".join([line for line in text.split("\n") if line])


class SmallSizesTest(unittest.TestCase):
    def broken_by_plays(self, code, owns, others):
        """For each promise the sizes of own at which some play breaks it, with the fewest blocks of such a case."""
        rules = code.rules
        sizes = [rules.least, rules.least + rules.unit]
        wants = [None] if code.kind == "free" else list(range(rules.least, owns[-1] + 4 * rules.least, rules.unit))
        found = {promise: {} for promise in PROMISES}
        for own in owns:
            for case in cases_of(code.kind, rules, own, sizes, wants, [rules.least], others):
                for promise in play_block(code, case).broken:
                    many = len(case[0])
                    found[promise][own] = min(many, found[promise].get(own, many))
        return found

    def check_code(self, code, owns, others, is_all):
        rules = code.rules
        found = self.broken_by_plays(code, owns, others)
        for promise in PROMISES:
            told = [own for own in owns if blockverdicts.next_block_break(code, promise, own) == own]
            if is_all:
                self.assertEqual(told, sorted(found[promise]), (promise, code.text))
            self.assertEqual([own for own in found[promise] if own not in told], [], (promise, code.text))
            self.check_case(code, promise, found[promise])
        wrong = {own for own in owns for one in PROMISES if blockverdicts.next_block_break(code, one, own) == own}
        for size in range(1, owns[-1] + 1):
            self.assertEqual(blockverdicts.wrong_blocks(code, size), len([own for own in wrong if own <= size]))
            self.assertEqual(blockverdicts.block_is_right(code, size), size not in wrong)
            self.check_next(blockverdicts.next_wrong_block(code, size), sorted(wrong), size, owns[-1])
            right = [own for own in owns if own not in wrong]
            self.check_next(blockverdicts.next_right_block(code, size), right, size, owns[-1])
        self.assertEqual(rules.in_use(owns[0]), True)

    def check_next(self, told, sizes, size, last):
        """A told size is the first one of some, or lies behind the last one that was looked at."""
        expected = [one for one in sizes if one >= size]
        if expected:
            self.assertEqual(told, expected[0])
        else:
            self.assertTrue(told is None or told > last)

    def check_case(self, code, promise, found):
        case = blockverdicts.least_block_case(code, promise)
        self.assertEqual(case is None, blockverdicts.block_keeps(code, promise))
        self.assertEqual(promise in blockverdicts.block_kept(code), case is None)
        if case is None:
            return
        row, _, own, _ = case
        self.assertIn(promise, play_block(code, case).broken, (promise, code.text, case))
        self.assertEqual(row[own][0], blockverdicts.next_block_break(code, promise, 1))
        if found.get(row[own][0]):
            self.assertLessEqual(len(row), found[row[own][0]], (promise, code.text, case))

    def test_right_codes(self):
        for kind in KINDS:
            for rules in (BlockRules(1, 4), BlockRules(2, 4), BlockRules(3, 6)):
                code = BlockCode(kind, rules, TEXTS[kind])
                self.assertEqual(blockverdicts.block_kept(code), PROMISES)
                self.assertEqual(blockverdicts.next_wrong_block(code, 1), None)
                self.assertEqual(blockverdicts.next_right_block(code, 10 ** 50 + 1), rules.next_in_use(10 ** 50 + 1))
                self.check_code(code, [rules.least + rules.unit * k for k in range(3)], 1, True)

    def test_slips(self):
        for kind, old, new, many in SLIPS:
            self.assertNotEqual(changed(kind, old, new, many), TEXTS[kind])
            for rules in (BlockRules(1, 4), BlockRules(2, 4)):
                code = BlockCode(kind, rules, changed(kind, old, new, many))
                self.check_code(code, [rules.least + rules.unit * k for k in range(4)], 2, True)

    def test_slips_of_chance(self):
        chance = random.Random(5)
        for at in range(120):
            rules = BlockRules(*chance.choice([(1, 4), (1, 5), (2, 4), (3, 6)]))
            code = slip(chance, KINDS[at % 4], rules)
            self.check_code(code, [rules.least + rules.unit * k for k in range(3)], 1, False)


class GreatSizesTest(unittest.TestCase):
    def code(self, kind, old, new):
        return BlockCode(kind, BlockRules(1, 4), TEXTS[kind].replace(old, new))

    def test_one_size_alone(self):
        number = 10 ** 29 + 7
        code = self.code("free", "p = own + a\n", f"p = own + a\nif a is {number}\nquit\nend\n")
        self.assertEqual([blockverdicts.next_wrong_block(code, size) for size in (1, number, number + 1)],
                         [number, number, None])
        self.assertEqual([blockverdicts.wrong_blocks(code, size) for size in (number - 1, number, 10 ** 60)], [0, 1, 1])
        self.assertEqual(blockverdicts.next_right_block(code, number), number + 1)
        self.assertEqual(blockverdicts.least_block_case(code, "owed"), (((number, True),), (), 0, None))
        self.assertEqual(blockverdicts.block_kept(code), tuple([one for one in PROMISES if one != "owed"]))

    def test_sizes_in_stretches(self):
        text = TEXTS["free"].replace("p = own + a\n", "p = own + a\nif a < 100 and not a < 20\nquit\nend\nif 1000 < a\nquit\nend\n")
        code = BlockCode("free", BlockRules(5, 5), text)
        self.assertEqual(blockverdicts.wrong_blocks(code, 10 ** 40), 16 + (10 ** 40 - 1000) // 5)
        self.assertEqual([blockverdicts.next_right_block(code, size) for size in (19, 21, 100, 1001)], [100, 100, 100, None])
        self.assertEqual([blockverdicts.next_wrong_block(code, size) for size in (1, 96, 1001)], [20, 1005, 1005])
        self.assertTrue(blockverdicts.block_is_right(code, 21))

    def test_classes_of_sizes(self):
        # A want that is half of own is there for even sizes alone.
        code = self.code("cut", "p = own + a\n", "p = own + a\nc = want\nc = c + want\nif c is a\nfoot own = 2\nend\n")
        self.assertEqual([blockverdicts.next_block_break(code, "whole", size) for size in (1, 8, 9, 10 ** 40 + 1)],
                         [8, 8, 10, 10 ** 40 + 2])
        self.assertEqual(blockverdicts.wrong_blocks(code, 10 ** 30), 5 * 10 ** 29 - 3)
        self.assertEqual(blockverdicts.next_right_block(code, 8), 9)

    def test_sizes_beside_own(self):
        text = TEXTS["free"].replace("b = size p\na = a + b", f"b = size p\nif {10 ** 20} < b\nquit\nend\na = a + b")
        code = BlockCode("free", BlockRules(1, 4), text)
        self.assertEqual(blockverdicts.next_block_break(code, "owed", 1), 4)
        row, _, own, _ = blockverdicts.least_block_case(code, "owed")
        self.assertEqual((row[own], len(row), row[own + 1][0] > 10 ** 20), ((4, True), 2, True))

    def test_rings_with_others(self):
        """A link between other blocks that is written is seen with as few of them as show it."""
        text = TEXTS["free"] + "\np = next s\nif not p is bin\nnext p = bin\nend"
        code = BlockCode("free", BlockRules(1, 4), text)
        self.assertEqual(blockverdicts.block_kept(code), tuple([one for one in PROMISES if one != "ring"]))
        case = blockverdicts.least_block_case(code, "ring")
        self.assertEqual((len(case[0]), len(case[1])), (5, 2))
        self.assertEqual(play_block(code, case).broken, ("ring",))


class ErrorsTest(unittest.TestCase):
    def setUp(self):
        self.code = BlockCode("free", BlockRules(1, 4), TEXTS["free"])

    def test_promises(self):
        for promise in ("even", "", "Inside", None, 1, True, [], ("ring",), {}, object()):
            for name in ("block_keeps", "least_block_case"):
                self.assertEqual(error_of(getattr(blockverdicts, name), self.code, promise), ("BadPromise", promise))
            self.assertEqual(error_of(blockverdicts.next_block_break, self.code, promise, 0), ("BadPromise", promise))

    def test_sizes(self):
        for size in (0, -1, *NO_INTEGERS):
            self.assertEqual(error_of(blockverdicts.next_block_break, self.code, "ring", size), ("BadSize", size))
            for name in ("block_is_right", "next_wrong_block", "next_right_block", "wrong_blocks"):
                self.assertEqual(error_of(getattr(blockverdicts, name), self.code, size), ("BadSize", size))


if __name__ == "__main__":
    unittest.main()
