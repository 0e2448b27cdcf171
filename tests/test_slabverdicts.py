"""Promises [44], [45], [81], [82]: verdicts on slabs, against playing all sizes, all pages and all addresses of narrow words."""

import random
import unittest
from itertools import combinations

from asking import NO_INTEGERS, error_of
from slabmakers import BACK, BACKS, CAREFUL, LAYS, TAKE, TAKES, SlabChance, back_breaks, exact_lay, lay_breaks, take_breaks
from tagblocks import slabverdicts
from tagblocks.slabcodes import SlabCode
from tagblocks.slabplay import back_play, lay_play, take_play
from tagblocks.slabrules import SlabRules
from tagblocks.slabs import Slab

PROMISES = {"lay": ("inside", "fits", "most"), "take": ("inside", "number", "own", "counts", "full"),
            "back": ("inside", "number", "own", "counts", "full", "odd", "twice")}
NARROW = [SlabRules(2, 0, 1), SlabRules(3, 0, 1), SlabRules(3, 2, 1), SlabRules(4, 0, 2), SlabRules(4, 3, 2), SlabRules(5, 3, 5),
          SlabRules(5, 0, 4), SlabRules(6, 3, 12)]
MAGIC = BACK.replace("number = a // each", "a = a * 43691\nnumber = a >> 18").replace("// wide", ">> 5").replace("mod wide", "& 31")


def pages(rules):
    """All pages that are right."""
    for many in range(1, rules.most_places(2 ** rules.wide - 1) + 1):
        for used in range(many + 1):
            for lent in combinations(range(many), used):
                yield many, lent


def broken_cases(rules, code):
    """For each promise the cases that break it: sizes, or triples of many, used and what is handed."""
    broken = {promise: set() for promise in PROMISES[code.kind]}
    if code.kind == "lay":
        for size in range(rules.head + 1 + rules.each, 2 ** rules.wide):
            for promise in lay_breaks(rules, code, size):
                broken[promise].add(size)
        return broken
    for many, lent in pages(rules):
        if code.kind == "take":
            handed = min(bit for bit in range(many + 1) if bit not in lent)
            for promise in take_breaks(rules, code, many, lent):
                broken[promise].add((many, len(lent), handed))
        else:
            for at in range(2 ** rules.wide):
                for promise in back_breaks(rules, code, many, lent, at):
                    broken[promise].add((many, len(lent), at))
    return broken


class NarrowWordsTest(unittest.TestCase):
    def check(self, rules, code, chance):
        told = (code.kind, rules.wide, rules.head, rules.each, code.text)
        broken = broken_cases(rules, code)
        wrong = set()
        for promise, cases in broken.items():
            numbers = {case if code.kind == "lay" else case[0] for case in cases}
            wrong |= numbers if promise not in ("odd", "twice") else set()
            self.assertEqual(slabverdicts.slab_keeps(rules, code, promise), not cases, (promise, told))
            self.assertEqual(slabverdicts.slab_case(rules, code, promise), min(cases, default=None), (promise, told))
            for number in (0, *[chance.randrange(2 ** rules.wide + 2) for _ in range(2)]):
                least = min([one for one in numbers if one >= number], default=None)
                self.assertEqual(slabverdicts.slab_break(rules, code, promise, number), least, (promise, number, told))
        self.assertEqual(slabverdicts.slab_kept(rules, code), tuple([one for one in PROMISES[code.kind] if not broken[one]]))
        for number in chance.sample(range(2 ** rules.wide + 2), 3):
            self.assertEqual(slabverdicts.slab_right_at(rules, code, number), number not in wrong, (number, told))

    def test_right_codes(self):
        for rules in NARROW:
            for kind, texts in (("lay", LAYS), ("take", TAKES), ("back", BACKS)):
                for text in texts:
                    self.check(rules, SlabCode(kind, text), random.Random(44))
        rules = SlabRules(5, 0, 4)
        self.assertEqual(slabverdicts.slab_kept(rules, SlabCode("take", TAKE)), PROMISES["take"])
        self.assertEqual(slabverdicts.slab_kept(rules, SlabCode("back", CAREFUL)), PROMISES["back"])
        self.assertEqual(slabverdicts.slab_kept(rules, SlabCode("back", BACK)), PROMISES["back"][:5])

    def test_lays_with_slips(self):
        chance = SlabChance(random.Random(45), 30)
        for rules in (SlabRules(8, 0, 1), SlabRules(8, 3, 6), SlabRules(9, 7, 4), SlabRules(2, 0, 1)):
            for _ in range(20):
                self.check(rules, chance.code("lay", 4, [LAYS[1], exact_lay(rules).text]), chance.random)

    def test_codes_with_slips(self):
        chance = SlabChance(random.Random(46))
        for _ in range(110):
            self.check(chance.random.choice(NARROW), chance.code(chance.random.choice(["take", "back", "back"]), 4), chance.random)

    def test_slabs_with_slips(self):
        chance = SlabChance(random.Random(47))
        for _ in range(40):
            rules = chance.random.choice(NARROW)
            slips = [chance.random.choice([0, 0, 1, 2]) for _ in range(3)]
            slab = Slab(rules, chance.code("lay", slips[0], [LAYS[1]]), chance.code("take", slips[1]), chance.code("back", slips[2]))
            wrong = [self.wrong_at(slab, size) for size in range(2 ** rules.wide)]
            least = rules.head + 1 + rules.each
            for size in range(2 ** rules.wide + 1):
                owed = [one for one in range(max(size, least), 2 ** rules.wide) if wrong[one]]
                self.assertEqual(slabverdicts.slab_wrong(slab, size), owed[0] if owed else None)
                if least <= size < 2 ** rules.wide:
                    self.assertEqual(slabverdicts.slab_is_right(slab, size), not wrong[size])

    def wrong_at(self, slab, size):
        if not slab.rules.in_use(size):
            return False
        if lay_breaks(slab.rules, slab.lay, size):
            return True
        many = lay_play(slab.rules, slab.lay, size).many
        return not (slabverdicts.slab_right_at(slab.rules, slab.take, many) and slabverdicts.slab_right_at(slab.rules, slab.back, many))


class OneByOneTest(unittest.TestCase):
    """Each promise, broken by one slip, in words of 32 and 64 bits."""

    def setUp(self):
        self.rules = SlabRules(64, 4096, 7)

    def kept(self, kind, text, rules=None):
        return slabverdicts.slab_kept(rules or self.rules, SlabCode(kind, text))

    def case(self, kind, text, promise, rules=None):
        return slabverdicts.slab_case(rules or self.rules, SlabCode(kind, text), promise)

    def test_right_codes(self):
        for rules in (self.rules, SlabRules(64, 0, 1), SlabRules(32, 4096, 4096), SlabRules(32, 0, 1)):
            self.assertEqual(slabverdicts.slab_kept(rules, exact_lay(rules)), ("fits", "most"))
            self.assertEqual(self.kept("take", TAKE, rules), PROMISES["take"])
            self.assertEqual(self.kept("back", CAREFUL, rules), PROMISES["back"])
            least = slabverdicts.slab_break(rules, exact_lay(rules), "inside", 0)
            self.assertEqual(least, rules.head + 2 ** (rules.wide - (6 if rules.wide == 64 else 5)))

    def test_lay(self):
        exact = exact_lay(self.rules).text
        self.assertEqual(self.kept("lay", exact.replace("449", "450")), ("fits",))
        # A multiplier of one less tells too much: first where 449 places would just not fit.
        self.assertEqual(self.kept("lay", exact.replace("449", "448")), ("most",))
        size = self.case("lay", exact.replace("449", "448"), "fits")
        self.assertEqual(lay_breaks(self.rules, SlabCode("lay", exact.replace("449", "448")), size), ["fits"])
        self.assertEqual(lay_breaks(self.rules, SlabCode("lay", exact.replace("449", "448")), size - 1), [])
        self.assertEqual(self.case("lay", "many = 1\nmaps = 1\nif size is 18446744073709551615\nmaps = 2\nend", "fits"), 2 ** 64 - 1)
        self.assertEqual(self.kept("lay", "many = 1\nmaps = 1"), ("inside", "fits"))
        self.assertEqual(self.case("lay", "many = 1\nmaps = 1", "most"), 4096 + 1 + 14)
        self.assertEqual(self.kept("lay", "many = size\nmaps = 1"), ("inside", "most"))
        self.assertEqual(self.case("lay", "a = size + 5\nmany = 1\nmaps = 1", "inside"), 2 ** 64 - 5)

    def test_take(self):
        self.assertEqual(self.kept("take", TAKE.replace("word * wide", "word << 5")), ("inside", "own", "counts", "full"))
        self.assertEqual(self.case("take", TAKE.replace("word * wide", "word << 5"), "number"), (65, 64, 64))
        self.assertEqual(self.kept("take", TAKE.replace("base + a", "base + a + 1")), ("inside", "number", "counts", "full"))
        self.assertEqual(self.case("take", TAKE.replace("set\n", "if number is 9\nelse\nset\nend\n"), "own"), (10, 9, 9))
        self.assertEqual(self.kept("take", TAKE.replace("used + 1", "used + 2")), ("inside", "number", "own", "full"))
        self.assertEqual(self.case("take", TAKE.replace("\nif used is many\nunlist\nend", ""), "counts"), (1, 0, 0))
        self.assertEqual(self.case("take", TAKE.replace("\nunlist", "\nunlist\ndrop"), "counts"), (1, 0, 0))
        self.assertEqual(self.kept("take", TAKE.replace("used is many\nno", "used is many and not many is 9\nno")), ("inside", "number", "own", "counts"))
        self.assertEqual(self.case("take", TAKE.replace("used is many\nno", "used is 64 and many is 64\nelse\nif used is many\nno\nend"), "inside"),
                         (64, 64, 64))
        self.assertEqual(self.case("take", TAKE.replace("used is many\nno", "used is 7\nno"), "full"), (1, 1, 1))
        self.assertEqual(self.case("take", "find\nset\n" + TAKE.replace("find\n", "").replace("set\n", ""), "full"), (1, 1, 1))
        self.assertEqual(self.kept("take", "quit"), ("inside", "own"))
        # number that is set ahead of find was not set behind it
        self.assertEqual(self.case("take", "number = 0\nfind\nset\nat = base\nused = used + 1", "number"), (1, 0, 0))

    def test_back(self):
        self.assertEqual(self.kept("back", BACK), PROMISES["back"][:5])
        self.assertEqual(self.case("back", BACK, "odd")[:2], (1, 0))
        self.assertEqual(self.case("back", BACK, "twice"), (1, 0, 4097))
        self.assertEqual(self.kept("back", CAREFUL.replace("b is 0 and ", "")), PROMISES["back"][:5] + ("twice",))
        self.assertEqual(self.kept("back", CAREFUL.replace(" and number < many", "")), PROMISES["back"][:5] + ("twice",))
        self.assertEqual(self.kept("back", CAREFUL.replace("number = a // each", "c = a // each").replace("number", "c")), ("inside", "own", "counts", "full", "odd", "twice"))
        self.assertEqual(self.case("back", CAREFUL.replace("mod wide", "& 31"), "full"), (33, 1, 4097 + 7 * 32))
        self.assertEqual(self.case("back", BACK.replace("mod wide", "& 31"), "inside"), (33, 1, 4097 + 7 * 32))
        self.assertEqual(self.case("back", BACK.replace("mod wide", "& 31"), "own"), (33, 2, 4097 + 7 * 32))
        self.assertEqual(self.case("back", BACK.replace("used is many\nlist", "used is many and not many is 5\nlist"), "counts"), (5, 5, 4097))
        far = CAREFUL.replace("if at < base", f"if {2 ** 63} <= at\nno\nend\nif at < base")
        self.assertEqual(self.case("back", far, "full"), self.first_far(2 ** 63))
        self.assertEqual(self.case("back", "used = used - 1\n" + CAREFUL.replace("used = used - 1\n", ""), "inside")[0], 1)

    def first_far(self, bound):
        """The least page with a place from an address on, one place lent, and that address."""
        low, many = 1, bound
        while low < many:
            middle = (low + many) // 2
            low, many = (low, middle) if self.last_at(middle) >= bound else (middle + 1, many)
        return (many, 1, self.last_at(many))

    def last_at(self, many):
        return 4096 + -(-many // 64) + 7 * (many - 1)

    def test_multipliers(self):
        rules = SlabRules(32, 2, 6)
        self.assertEqual(self.kept("back", MAGIC, rules), ("number", "own", "counts", "full"))
        self.assertEqual(self.case("back", MAGIC, "inside", rules), (16385, 1, 98819))
        self.assertEqual(slabverdicts.slab_break(rules, SlabCode("back", MAGIC), "inside", 20000), 20000)
        wide = SlabRules(64, 2, 6)
        magic = MAGIC.replace(">> 5", ">> 6").replace("& 31", "& 63")
        self.assertEqual(self.kept("back", magic, wide), ("own", "counts", "full"))
        many = slabverdicts.slab_break(wide, SlabCode("back", magic), "inside", 0)
        # number is one too great for the first time where 2 k reaches 2 ** 18: the bit of no place is cleared
        self.assertEqual(many, 2 ** 17 + 1)
        self.assertEqual(slabverdicts.slab_case(wide, SlabCode("back", magic), "number")[:2], (2 ** 17 + 2, 2))
        told = back_play(wide, SlabCode("back", magic), (many, (many - 1,)), 2 + -(-many // 64) + 6 * (many - 1))
        self.assertEqual((told.ended, told.number), ("beyond", many))

    def test_whole_slabs(self):
        rules = SlabRules(32, 2, 6)
        slab = Slab(rules, exact_lay(rules), SlabCode("take", TAKE), SlabCode("back", MAGIC))
        self.assertEqual([slabverdicts.slab_wrong(slab, size) for size in (0, 98824, 98825, 2 ** 32 - 1, 2 ** 32)],
                         [98825, 98825, 98825, 2 ** 32 - 1, None])
        self.assertTrue(slabverdicts.slab_is_right(slab, 98824))
        self.assertFalse(slabverdicts.slab_is_right(slab, 98825))
        right = Slab(rules, exact_lay(rules), SlabCode("take", TAKE), SlabCode("back", CAREFUL))
        self.assertEqual(slabverdicts.slab_wrong(right, 0), 2 ** 27 + 2)


class HardCodesTest(unittest.TestCase):
    def test_code_of_chance(self):
        """Whether rows can hold is not told by parts here within minutes; their bits tell it."""
        text = ("b = at + 135 << 13\nb = at + b & 131071\nnumber = number\nword = many - b mod each\nbit = number // 17\nif not is set\n"
                "if many is head\nno\nend\nclear\nend\nused = used - 1")
        rules, code = SlabRules(64, 4096, 100), SlabCode("back", text)
        many, used, at = slabverdicts.slab_case(rules, code, "number")
        self.assertEqual((many, used, at), (208, 2, 8200))
        place = (at - 4096 - -(-many // 64)) // 100
        pairs = [tuple(sorted((place, other))) for other in range(many) if other != place]
        self.assertTrue(any("number" in back_breaks(rules, code, many, pair, at) for pair in pairs))


class ErrorsTest(unittest.TestCase):
    def test_errors(self):
        rules = SlabRules(4, 2, 3)
        for kind, others in (("lay", ("number", "odd", "safe")), ("take", ("fits", "odd", "twice")), ("back", ("fits", "most"))):
            code = SlabCode(kind, "")
            for promise in (*others, "", None, 1, True, [], ("inside",), {}):
                for name in ("slab_keeps", "slab_case"):
                    self.assertEqual(error_of(getattr(slabverdicts, name), rules, code, promise), ("BadPromise", promise))
                self.assertEqual(error_of(slabverdicts.slab_break, rules, code, promise, -1), ("BadPromise", promise))
            for value in (-1, *NO_INTEGERS):
                self.assertEqual(error_of(slabverdicts.slab_break, rules, code, "inside", value), ("BadNumber", value))
                self.assertEqual(error_of(slabverdicts.slab_right_at, rules, code, value), ("BadNumber", value))
            self.assertTrue(slabverdicts.slab_right_at(rules, code, 0))
            self.assertTrue(slabverdicts.slab_right_at(rules, code, 10 ** 40))
        slab = Slab(rules, *[SlabCode(kind, "") for kind in ("lay", "take", "back")])
        for value in (-1, *NO_INTEGERS):
            self.assertEqual(error_of(slabverdicts.slab_wrong, slab, value), ("BadNumber", value))
        for value in (-1, 0, 5, 16, *NO_INTEGERS):
            self.assertEqual(error_of(slabverdicts.slab_is_right, slab, value), ("BadSize", value))

    def test_empty_codes(self):
        rules = SlabRules(4, 2, 3)
        self.assertEqual(slabverdicts.slab_kept(rules, SlabCode("lay", "")), ("inside", "most"))
        self.assertEqual(slabverdicts.slab_kept(rules, SlabCode("back", "no")), ("inside", "number", "own", "counts", "odd", "twice"))
        self.assertEqual(take_play(rules, SlabCode("take", ""), (1, ())).ended, "done")


if __name__ == "__main__":
    unittest.main()
