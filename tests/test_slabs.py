"""Promises [39], [40], [43], [45]: plays of slab codes, and pages that are really played."""

import random
import unittest

from asking import NO_INTEGERS, error_of
from slabmakers import BACK, CAREFUL, LAYS, TAKE, Replay, SlabChance, page_play
from tagblocks.slabcodes import SlabCode
from tagblocks.slabplay import back_play, lay_play, take_play
from tagblocks.slabrules import SlabRules
from tagblocks.slabs import Slab, SlabPage

RULES = SlabRules(4, 2, 3)
TOP = 15


def laid(text, size=12, rules=RULES):
    told = lay_play(rules, SlabCode("lay", text), size)
    return (told.ended, told.many, told.maps)


def taken(text, case=(3, (0,)), rules=RULES):
    return take_play(rules, SlabCode("take", text), case)


def brought(text, case=(3, (0, 2)), at=3, rules=RULES):
    return back_play(rules, SlabCode("back", text), case, at)


class LayTest(unittest.TestCase):
    def test_lines(self):
        self.assertEqual(laid(""), ("done", 0, 0))
        self.assertEqual(laid("many = size - head // each\nmaps = wide"), ("done", 3, 4))
        self.assertEqual(laid("many = size mod 5\nmaps = size & 7"), ("done", 2, 4))
        self.assertEqual(laid("many = 1 << 3\nmaps = size >> 2"), ("done", 8, 3))
        self.assertEqual(laid("many = 2 * each\nquit\nmany = 1"), ("done", 6, 0))
        self.assertEqual(laid("if size is 12 and not 3 < each\nmany = 1\nelse\nmaps = 1\nend"), ("done", 1, 0))

    def test_what_is_no_word(self):
        for terms, ended in (("3 - 3", "done"), ("2 - 3", "beyond"), ("size + 3", "done"), ("size + 4", "beyond"), ("5 * 3", "done"),
                             ("8 * 2", "beyond"), ("7 << 1", "done"), ("1 << 4", "beyond"), ("size + 4 // 2", "beyond"), ("2 - 3 // 2", "beyond"),
                             ("size + 4 & 1", "beyond"), ("2 - 3 mod 2", "beyond"), ("0 * 99", "done"), ("16 >> 1", "beyond")):
            self.assertEqual(laid("maps = 2\na = " + terms + "\nmany = 1"), (ended, 1 if ended == "done" else 0, 2), terms)

    def test_widest_words(self):
        rules = SlabRules(64, 4096, 4096)
        self.assertEqual(laid("many = size", 2 ** 64 - 1, rules), ("done", 2 ** 64 - 1, 0))
        self.assertEqual(laid("many = size + 1", 2 ** 64 - 1, rules)[0], "beyond")

    def test_errors(self):
        self.assertEqual(error_of(lay_play, RULES, SlabCode("take", ""), None), ("OtherKinds", "slabs"))
        for value in (0, 5, 16, -1, *NO_INTEGERS):
            self.assertEqual(error_of(lay_play, RULES, SlabCode("lay", ""), value), ("BadSize", value))


class PageTest(unittest.TestCase):
    def test_take(self):
        told = taken(TAKE, (3, (0, 2)))
        self.assertEqual((told.ended, told.number, told.at, told.used), ("done", 1, 6, 3))
        self.assertEqual((told.marked, told.is_listed, told.is_dropped), ((0, 1, 2), False, False))
        told = taken(TAKE, (3, (0, 1, 2)))
        self.assertEqual((told.ended, told.number, told.at, told.is_listed), ("refused", None, 0, False))

    def test_find(self):
        rules = SlabRules(4, 0, 1)
        for lent, many, told in (((), 9, 0), ((0, 1, 2), 9, 3), ((0, 1, 2, 3), 9, 4), ((1, 2), 9, 0), ((0, 1, 2), 3, 3)):
            self.assertEqual(taken("find\na = word * wide\nnumber = a + bit", (many, lent), rules).number, told)
        self.assertEqual(taken("find\nnumber = word", (5, (0, 1, 2, 3)), rules).number, 1)
        self.assertEqual(taken("find", (4, (0, 1, 2, 3)), rules).ended, "beyond")
        self.assertEqual(taken("find", (8, tuple(range(8))), rules).ended, "beyond")
        self.assertEqual(taken("find\nset", (5, tuple(range(5))), rules).marked, (0, 1, 2, 3, 4, 5))

    def test_set_ahead_of_find(self):
        self.assertEqual(taken("set").ended, "beyond")
        self.assertEqual(taken("find\nset").marked, (0, 1))

    def test_flags(self):
        full = (3, (0, 1, 2))
        for lines, case, ended in (("list", (3, ()), "beyond"), ("unlist", (3, ()), "done"), ("unlist\nunlist", (3, ()), "beyond"),
                                   ("unlist\nlist", (3, ()), "done"), ("list", full, "done"), ("unlist", full, "beyond"), ("drop", (3, ()), "beyond"),
                                   ("unlist\ndrop", (3, ()), "done"), ("drop", full, "done"), ("drop\ndrop", full, "beyond"), ("drop\nlist", full, "done")):
            for kind in ("take", "back"):
                told = taken(lines, case) if kind == "take" else brought(lines, case)
                self.assertEqual(told.ended, ended, lines)
        told = taken("unlist\ndrop", (3, ()))
        self.assertEqual((told.is_listed, told.is_dropped, told.number), (False, True, None))

    def test_back(self):
        told = brought(BACK, (3, (0, 2)), 9)
        self.assertEqual((told.ended, told.number, told.at, told.used, told.marked), ("done", 2, 9, 1, (0,)))
        told = brought(BACK, (3, (2,)), 9)
        self.assertEqual((told.used, told.marked, told.is_listed, told.is_dropped), (0, (), False, True))
        told = brought(BACK, (3, (0, 1, 2)), 3)
        self.assertEqual((told.used, told.is_listed, told.is_dropped), (2, True, False))
        for at in (6, 2, 4, 12, 15, 0):
            self.assertEqual(brought(CAREFUL, (3, (0, 2)), at).ended, "refused", at)

    def test_bits(self):
        for word, bit, ended in ((0, 0, "done"), (0, 1, "beyond"), (0, 3, "beyond"), (0, 4, "beyond"), (1, 0, "beyond"), (0, 2, "done")):
            self.assertEqual(brought(f"word = {word}\nbit = {bit}\nclear").ended, ended)
            told = brought(f"word = {word}\nbit = {bit}\nif is set\nnumber = 1\nelse\nnumber = 2\nend")
            there = word == 0 and bit < 4
            self.assertEqual((told.ended, told.number), ("done", 1 if bit in (0, 2) else 2) if there else ("beyond", None))
        self.assertEqual(brought("bit = 2\nclear\nif is set\nno\nend").marked, (0,))

    def test_numbers_that_are_handed(self):
        told = brought("number = many + base - used", (3, (0, 2)), 0)
        self.assertEqual(told.number, 3 + 3 - 2)
        self.assertEqual(brought("a = at + 0\nnumber = a", (3, ()), TOP).number, TOP)
        self.assertEqual(brought("used = 0 - 1").ended, "beyond")
        self.assertEqual(brought("used = 16").used, 2)
        self.assertEqual(brought("used = 15").used, 15)

    def test_many_places(self):
        rules = SlabRules(64, 0, 1)
        many = rules.most_places(2 ** 64 - 1)
        told = taken(TAKE, (many, (0, 1, 70)), rules)
        self.assertEqual((told.number, told.at), (2, 2 + -(-many // 64)))
        told = back_play(rules, SlabCode("back", BACK), (many, (5, many - 1)), -(-many // 64) + many - 1)
        self.assertEqual((told.ended, told.number, told.marked), ("done", many - 1, (5,)))

    def test_plays_of_chance(self):
        chance = SlabChance(random.Random(43))
        rules = SlabRules(5, 1, 3)
        for _ in range(300):
            kind = chance.random.choice(["take", "back"])
            code = chance.code(kind, 5)
            for _ in range(10):
                many = chance.random.randint(1, rules.most_places(31))
                lent = tuple(place for place in range(many) if chance.random.random() < 0.6)
                at = chance.random.randrange(32) if kind == "back" else 0
                told = take_play(rules, code, (many, lent)) if kind == "take" else back_play(rules, code, (many, lent), at)
                again = page_play(rules, code, many, lent, at)
                self.assertEqual((told.ended, told.number, told.at, told.used, told.marked, told.is_listed, told.is_dropped),
                                 (again.ended, again.number and again.number[0], again.worths["at"], again.worths["used"],
                                  tuple(sorted(again.bits)), again.is_listed, again.is_dropped), code.text)
            lay = chance.code("lay", 4)
            again = Replay(rules, lay, {"size": 20})
            told = lay_play(rules, lay, 20)
            self.assertEqual((told.ended, told.many, told.maps), (again.ended, again.worths["many"], again.worths["maps"]))

    def test_errors(self):
        take, back = SlabCode("take", ""), SlabCode("back", "")
        for code in (back, SlabCode("lay", "")):
            self.assertEqual(error_of(take_play, RULES, code, None), ("OtherKinds", "slabs"))
        for code in (take, SlabCode("lay", "")):
            self.assertEqual(error_of(back_play, RULES, code, None, -1), ("OtherKinds", "slabs"))
        for case in (None, 3, (3,), (3, (), 0), [3, ()], (3, [0]), (0, ()), (-1, ()), (5, ()), (True, ()), ("3", ()), (3, (3,)), (3, (-1,)),
                     (3, (1, 0)), (3, (1, 1)), (3, (True,)), (3, (0, None)), (3, "0"), (3, {0: 1})):
            self.assertEqual(error_of(take_play, RULES, take, case), ("BadCase", case))
            self.assertEqual(error_of(back_play, RULES, back, case, -1), ("BadCase", case))
        self.assertEqual((taken("", (3, (0, 1, 2))).ended, SlabRules(4, 2, 3).most_places(15)), ("done", 4))
        for value in (-1, 16, *NO_INTEGERS):
            self.assertEqual(error_of(back_play, RULES, back, (3, ()), value), ("BadNumber", value))


class SlabTest(unittest.TestCase):
    def slab(self, **texts):
        codes = {"lay": LAYS[1], "take": TAKE, "back": CAREFUL}
        codes.update(texts)
        return Slab(RULES, *[SlabCode(kind, codes[kind]) for kind in ("lay", "take", "back")])

    def test_slabs(self):
        slab = self.slab()
        self.assertEqual((slab.rules, slab.lay.kind, slab.take.kind, slab.back.kind), (RULES, "lay", "take", "back"))
        self.assertTrue(slab == self.slab())
        for other in (self.slab(lay=""), self.slab(take=""), self.slab(back=""), None):
            self.assertFalse(slab == other)
        self.assertEqual([slab.layout(size) for size in (6, 8, 9)], [(1, 1), (1, 1), (2, 1)])
        self.assertEqual(self.slab(lay="many = size + 7").layout(9), None)
        for value in (5, 16, None, True):
            self.assertEqual(error_of(slab.layout, value), ("BadSize", value))
        lay, take, back = slab.lay, slab.take, slab.back
        for codes in ((take, take, back), (lay, back, take), (lay, take, lay)):
            self.assertEqual(error_of(Slab, RULES, *codes), ("OtherKinds", "slabs"))

    def test_pages(self):
        slab = Slab(SlabRules(6, 2, 3), SlabCode("lay", LAYS[1]), SlabCode("take", TAKE), SlabCode("back", CAREFUL))
        page = SlabPage(slab, 30)
        self.assertEqual((page.many, page.maps, page.used, page.is_listed, page.is_dropped, page.is_broken), (8, 2, 0, True, False, False))
        self.assertEqual([page.lend() for _ in range(9)], [4, 7, 10, 13, 16, 19, 22, 25, None])
        self.assertEqual((page.used, page.is_listed, page.map_words()), (8, False, (63, 3)))
        self.assertEqual([page.bring(at) for at in (22, 22, 23, 0, 28, 4)], [True, False, False, False, False, True])
        self.assertEqual((page.used, page.is_listed, page.map_words(), page.lend()), (6, True, (62, 2), 4))
        self.assertEqual([page.bring(at) for at in (4, 7, 10, 13, 16, 19, 25)], [True] * 7)
        self.assertEqual((page.used, page.is_listed, page.is_dropped, page.is_broken), (0, False, True, False))
        self.assertEqual((error_of(page.lend), error_of(page.bring, 4), error_of(page.bring, -1)),
                         (("Broken", "slabs"), ("Broken", "slabs"), ("BadNumber", -1)))

    def test_broken_pages(self):
        self.assertEqual(error_of(SlabPage, self.slab(lay="many = 0"), 9), ("Broken", "slabs"))
        self.assertEqual(error_of(SlabPage, self.slab(lay="many = 2 - size"), 9), ("Broken", "slabs"))
        self.assertEqual(error_of(SlabPage, self.slab(lay="many = 0"), 5), ("BadSize", 5))
        page = SlabPage(self.slab(take="find\nset\nused = used + 9\nunlist\nunlist"), 9)
        self.assertEqual(error_of(page.lend), ("Broken", "slabs"))
        self.assertEqual((page.is_broken, page.used, page.is_listed, page.map_words()), (True, 9, False, (1,)))
        self.assertEqual((error_of(page.lend), error_of(page.bring, 3), error_of(page.bring, None)),
                         (("Broken", "slabs"), ("Broken", "slabs"), ("BadNumber", None)))

    def test_what_a_no_leaves(self):
        page = SlabPage(self.slab(take="find\nset\nno"), 9)
        self.assertEqual((page.lend(), page.map_words(), page.used), (None, (1,), 0))

    def test_wrong_layouts(self):
        page = SlabPage(self.slab(lay="many = 5\nmaps = 1"), 9)
        self.assertEqual((page.many, [page.lend() for _ in range(3)]), (5, [3, 6, 9]))
        page = SlabPage(self.slab(lay="many = 1"), 9)
        self.assertEqual((page.maps, page.map_words(), error_of(page.lend)), (0, (), ("Broken", "slabs")))


if __name__ == "__main__":
    unittest.main()
