"""Promises [25], [27], [28], [29]: plays of class codes and map codes, their edges and wrong inputs."""

import unittest

from asking import NO_INTEGERS, error_of
from binmakers import good_maps
from tagblocks.bincodes import BinCode, BinMaps, Bins, MapCode
from tagblocks.binplay import play_ask, play_hang, play_map
from tagblocks.binrules import BinRules

RULES = BinRules(2, 4, 1, 40, 11, 4)


def bins_with(hang="", ask="", rules=RULES, waste=0):
    return Bins(rules, BinCode("hang", hang), BinCode("ask", ask), waste)


def maps_with(rules=RULES, **texts):
    good = dict(zip(("find", "mark", "clear"), good_maps(rules)))
    good.update(texts)
    return BinMaps(rules, [MapCode(kind, good[kind]) for kind in ("find", "mark", "clear")])


class ClassPlayTest(unittest.TestCase):
    def hung(self, text, size=8):
        play = play_hang(bins_with(text), size)
        self.assertFalse(play.is_looking)
        return (play.ended, play.number)

    def test_lines(self):
        self.assertEqual(self.hung(""), ("done", 0))
        self.assertEqual(self.hung("bin = size - 3"), ("done", 5))
        self.assertEqual(self.hung("bin = size + 5 - 8 * 2"), ("done", 10))
        self.assertEqual(self.hung("bin = size // 3"), ("done", 2))
        self.assertEqual(self.hung("a = 1 - 8\nbin = a // 4\nbin = bin + 2"), ("done", 0))
        self.assertEqual(self.hung("bin = bits size"), ("done", 4))
        self.assertEqual(self.hung("a = 2\nbin = size >> a"), ("done", 2))
        self.assertEqual(self.hung("bin = last"), ("done", 10))
        self.assertEqual(self.hung("bin = 3\nquit\nbin = 4"), ("done", 3))
        self.assertEqual(self.hung("if size < 9 and not size is 4\nbin = 1\nelse\nbin = 2\nend", 8), ("done", 1))
        self.assertEqual(self.hung("if size < 9 and not size is 4\nbin = 1\nelse\nbin = 2\nend", 4), ("done", 2))

    def test_bits(self):
        self.assertEqual(self.hung("bin = bits 0"), ("done", 0))
        self.assertEqual(self.hung("bin = bits a"), ("done", 0))
        self.assertEqual(self.hung("bin = bits size - 8"), ("done", 0))
        self.assertEqual(self.hung("bin = bits size - 9"), ("beyond", None))

    def test_down(self):
        for by, told in (("0 - 1", ("beyond", None)), ("0", ("done", 8)), ("999", ("done", 0)), ("1000", ("beyond", None))):
            self.assertEqual(self.hung(f"a = {by}\nbin = size >> a"), told)
        self.assertEqual(self.hung("a = 999\nb = size - 9\nb = b >> a\nbin = b + 1"), ("done", 0))

    def test_bin_that_is_none(self):
        for text, told in (("bin = 0 - 1", ("beyond", None)), ("bin = 10", ("done", 10)), ("bin = 11", ("beyond", None))):
            self.assertEqual(self.hung(text), told)
        self.assertEqual(play_ask(bins_with(ask="bin = 11\nno"), 1).ended, "refused")
        self.assertEqual(play_ask(bins_with(ask="look\nbin = 11"), 1).is_looking, False)

    def test_ask(self):
        play = play_ask(bins_with(ask="look\nbin = len // 3"), 7)
        self.assertEqual((play.ended, play.number, play.is_looking), ("done", 2, True))
        play = play_ask(bins_with(ask="bin = len\nno"), 7)
        self.assertEqual((play.ended, play.number, play.is_looking), ("refused", None, False))
        play = play_ask(bins_with(ask="look\nno"), 7)
        self.assertEqual((play.ended, play.number, play.is_looking), ("refused", None, False))

    def test_great_numbers(self):
        rules = BinRules(1, 1, 0, 10 ** 30 - 1, 256, 16)
        self.assertEqual(play_hang(bins_with("bin = bits size", rules=rules), 10 ** 30 - 1).number, 100)

    def test_wrong_inputs(self):
        bins = bins_with()
        for value in (0, 2, 3, 5, 42, -4, *NO_INTEGERS):
            self.assertEqual(error_of(play_hang, bins, value), ("BadNumber", value))
        for value in (0, -1, 40, *NO_INTEGERS):
            self.assertEqual(error_of(play_ask, bins, value), ("BadNumber", value))
        self.assertEqual(play_ask(bins, 39).number, 0)
        self.assertEqual(play_hang(bins, 40).number, 0)


class MapPlayTest(unittest.TestCase):
    def found(self, text, words=(1, 0, 2), number=1):
        play = play_map(maps_with(find=text), "find", words, number)
        self.assertEqual((play.words, play.roof), (words, sum(1 << at for at, word in enumerate(words) if word)))
        return (play.ended, play.number)

    def test_find(self):
        self.assertEqual(self.found(good_maps(RULES)[0]), ("done", 9))
        self.assertEqual(self.found(good_maps(RULES)[0], number=10), ("refused", None))
        self.assertEqual(self.found("tell 99"), ("done", 99))
        self.assertEqual(self.found("tell bin"), ("done", 1))
        self.assertEqual(self.found("p = word 2\na = first p\ntell a"), ("done", 1))
        self.assertEqual(self.found("p = roof\np without 0\na = first p\ntell a"), ("done", 2))
        self.assertEqual(self.found("p = roof\nq = p\nq with 3\nq from 3\nb = first q\ntell b"), ("done", 3))
        self.assertEqual(self.found("a = bin - 8 mod 5\ntell a"), ("done", 3))
        self.assertEqual(self.found("a = bin - 8 // 5\ntell a"), ("done", -2))

    def test_find_without_an_answer(self):
        for text in ("", "a = 1", "quit", "if bin is 2\ntell 2\nend"):
            self.assertEqual(self.found(text), ("beyond", None))

    def test_beyond(self):
        for text in ("p = word 3", "a = 0 - 1\np = word a", "p from 4", "p with 4", "p without 4", "a = 0 - 1\np from a",
                     "a = first p", "p = word 1\na = first p", "p = roof\np from 3\na = first p"):
            self.assertEqual(self.found(text + "\ntell 0"), ("beyond", None))
        play = play_map(maps_with(mark="p with 1\nword 1 = p\nroof = p\np with 4"), "mark", (1, 0, 2), 4)
        self.assertEqual((play.ended, play.number, play.words, play.roof), ("beyond", None, (1, 2, 2), 2))

    def test_bits_that_belong_to_no_bin(self):
        play = play_map(maps_with(mark="p = word 2\np with 3\nword 2 = p\nquit\nword 1 = p"), "mark", (1, 0, 2), 4)
        self.assertEqual((play.ended, play.words, play.roof), ("done", (1, 0, 10), 5))

    def test_mark_and_clear(self):
        play = play_map(maps_with(), "mark", (1, 0, 2), 4)
        self.assertEqual((play.ended, play.number, play.words, play.roof), ("done", None, (1, 1, 2), 7))
        play = play_map(maps_with(), "clear", (1, 0, 2), 9)
        self.assertEqual((play.ended, play.number, play.words, play.roof), ("done", None, (1, 0, 0), 1))

    def test_wrong_inputs(self):
        maps = maps_with()
        for kind in ("hang", "", None, 1, ["find"]):
            self.assertEqual(error_of(play_map, maps, kind, None, -1), ("BadKind", kind))
        for words, index in ((None, 0), ([1, 0, 2], 0), ((), 0), ((1, 0), 2), ((1, 0, 2, 0), 4), ((16, -1, 2), 0),
                             ((1, True, 8), 1), ((1, "0", 2), 1), ((1, 0, 8), 2), ((15, 15, None), 2)):
            self.assertEqual(error_of(play_map, maps, "find", words, -1), ("BadMap", index))
        for kind, number in (("find", -1), ("find", 11), ("find", None), ("find", True), ("mark", 0), ("clear", 1), ("mark", 11)):
            self.assertEqual(error_of(play_map, maps, kind, (1, 0, 2), number), ("BadNumber", number))
        self.assertEqual(play_map(maps, "find", (15, 15, 7), 10).number, 10)


if __name__ == "__main__":
    unittest.main()
