"""Promises [23], [24], [27], [30], [78], [79]: verdicts on bins and maps, against playing all that there is."""

import random
import unittest
from itertools import product

from asking import NO_INTEGERS, error_of
from binmakers import ASKS, HANGS, BinChance, good_maps, play_map_again, right_roof
from tagblocks import binverdicts, mapfindings
from tagblocks.bincodes import BinCode, BinMaps, Bins, MapCode
from tagblocks.binplay import play_ask, play_hang, play_map
from tagblocks.binrules import BinRules

BIN_PROMISES = ("inside", "safe", "found", "again", "order")
MAP_PROMISES = ("inside", "true", "least", "kept")
KINDS = ("find", "mark", "clear")
TOP = 10 ** 30 - 1


def first_from(numbers, least):
    return min([number for number in numbers if number >= least], default=None)


def shown_at(bins, sizes, hung, n):
    """For each promise that is broken at a length the sizes that show it."""
    need = min(size for size in sizes if size >= n + bins.rules.over)
    ask = play_ask(bins, n)
    shown = {"inside": [None]} if ask.ended == "beyond" or hung[need] is None else {}
    if ask.ended == "beyond":
        return shown
    told = [size for size in sizes if hung[size] is not None]
    if ask.number is None:
        shown["found"] = [size for size in sizes if size >= need + bins.waste]
        shown["again"] = [None]
    else:
        least = ask.number + 1 if ask.is_looking else ask.number
        shown["safe"] = [size for size in told if size < need and hung[size] >= least]
        shown["found"] = [size for size in told if size >= need + bins.waste and hung[size] < ask.number]
        shown["again"] = [need] if hung[need] is not None and hung[need] < ask.number else []
    if hung[need] is not None:
        shown["order"] = [size for size in told if size < need and hung[size] > hung[need]]
    return {promise: sizes for promise, sizes in shown.items() if sizes}


class AllLengthsTest(unittest.TestCase):
    def check(self, bins, starts):
        rules = bins.rules
        sizes = range(rules.least, rules.most + 1, rules.unit)
        hung = {size: play_hang(bins, size).number for size in sizes}
        asked = {n: play_ask(bins, n).number for n in range(1, rules.most - rules.over + 1)}
        shown = {n: shown_at(bins, sizes, hung, n) for n in asked}
        told = (bins.hangs.text, bins.asks.text, bins.waste, rules.unit, rules.least, rules.over, rules.most, rules.bins)
        for promise in BIN_PROMISES:
            broken = [n for n in asked if promise in shown[n]]
            self.assertEqual(binverdicts.bin_keeps(bins, promise), not broken, (promise, told))
            for n in starts:
                self.assertEqual(binverdicts.bin_wrong(bins, promise, n), first_from(broken, n), (promise, told))
                self.assertEqual(binverdicts.bin_right(bins, promise, n), first_from(set(asked) - set(broken), n), told)
                self.assertEqual(binverdicts.bin_many(bins, promise, n), len([one for one in broken if one <= n]), told)
            case = binverdicts.bin_case(bins, promise)
            self.assertEqual(case is None, not broken)
            if broken:
                self.assertEqual(case[0], broken[0])
                self.assertIn(case[1], shown[case[0]][promise], (promise, told))
        self.assertEqual(binverdicts.bin_kept(bins), tuple([one for one in BIN_PROMISES
                                                            if not [n for n in asked if one in shown[n]]]))
        for number in (0, 1, 2, 3, 7, 16, 10 ** 40):
            above = [size for size in sizes if hung[size] is not None and hung[size] >= number]
            below = [size for size in sizes if hung[size] is not None and hung[size] < number]
            self.assertEqual(binverdicts.bin_floor(bins, number), min(above, default=None), told)
            self.assertEqual(binverdicts.bin_ceiling(bins, number), max(below, default=None), told)
            self.assertEqual(binverdicts.ask_floor(bins, number),
                             min([n for n in asked if asked[n] is not None and asked[n] >= number], default=None), told)

    def test_right_codes(self):
        for hang in HANGS:
            for ask in ASKS:
                for rules in (BinRules(1, 1, 0, 40, 16, 4), BinRules(4, 8, 3, 60, 7, 3), BinRules(2, 4, 0, 4, 1, 2)):
                    self.check(Bins(rules, BinCode("hang", hang), BinCode("ask", ask), 3), (0, 1, 17, 40))

    def test_codes_with_slips(self):
        chance = BinChance(random.Random(23))
        for _ in range(500):
            unit, over, wide = chance.random.choice([1, 1, 2, 4]), chance.random.choice([0, 0, 1, 3]), chance.random.randint(2, 4)
            least = unit * chance.random.randint(over // unit + 1, 6)
            rules = BinRules(unit, least, over, unit * chance.random.randint(least // unit, 40),
                             chance.random.randint(1, wide * wide), wide)
            bins = Bins(rules, chance.class_code("hang"), chance.class_code("ask"), chance.random.choice([0, 0, 1, 3, 8, 30]))
            self.check(bins, (0, 1, chance.random.randrange(rules.most + 3), 10 ** 40))

    def test_bits_and_a_line_that_is_beyond(self):
        """What bits told and the number of a line must not be taken for one another."""
        rules = BinRules(1, 6, 1, 18, 4, 2)
        self.check(Bins(rules, BinCode("hang", "bin = bits size"), BinCode("ask", "a = len - 6\na = bits a\nbin = a + 1"), 1), (0, 9))


class GreatNumbersTest(unittest.TestCase):
    def test_halves(self):
        hang = "a = bits size\nb = a - 3\nif b < 0\nbin = size\nelse\nc = size >> b\nb = b * 4\nbin = b + c\nend"
        ask = "a = len - 1\na = bits a\nbin = a * 4"
        rules = BinRules(8, 16, 8, 10 ** 30 - 2 ** 20 * 5 ** 12, 256, 16)
        rules = BinRules(8, 16, 8, rules.most - rules.most % 8, 256, 16)
        bins = Bins(rules, BinCode("hang", hang + "\nif last < bin\nbin = last\nend"), BinCode("ask", ask))
        bins = Bins(bins.rules, bins.hangs, bins.asks, 10 ** 30)
        broken = binverdicts.bin_wrong(bins, "inside", 0)
        self.assertEqual(play_ask(bins, broken - 1).ended, "done")
        self.assertEqual(play_ask(bins, broken).ended, "beyond")

    def test_hundreds_of_rows_of_bins(self):
        rules = BinRules(1, 1, 0, TOP, 256, 16)
        texts = [f"a = bits {name}\nb = a - 9\nc = {name} >> b\nbin = c - 256" for name in ("size", "len")]
        bins = Bins(rules, BinCode("hang", texts[0]), BinCode("ask", texts[1]))
        self.assertEqual(binverdicts.bin_kept(bins), ("again",))
        self.assertEqual([binverdicts.bin_case(bins, one) for one in ("inside", "safe", "order")], [(1, None), (512, 256), (512, 257)])
        self.assertEqual((binverdicts.bin_floor(bins, 255), binverdicts.bin_floor(bins, 256)), (511, None))
        self.assertEqual(binverdicts.bin_many(bins, "inside", TOP), 255)
        self.assertEqual(binverdicts.bin_right(bins, "safe", TOP), None)

    def test_one_slip_far_out(self):
        rules = BinRules(1, 1, 0, TOP, 100, 10)
        for slip in (10 ** 29 + 7, TOP, 2):
            hang = BinCode("hang", f"bin = bits size\nbin = bin - 1\nif size is {slip}\nbin = 0\nend")
            bins = Bins(rules, hang, BinCode("ask", "a = len - 1\nbin = bits a\nif last < bin\nno\nend"), TOP)
            self.assertEqual(binverdicts.bin_case(bins, "order"), (slip, 1 if slip == 2 else 2) if slip != 2 else None)
            self.assertEqual(binverdicts.bin_wrong(bins, "order", 0), None if slip == 2 else slip)
            self.assertEqual(binverdicts.bin_many(bins, "order", 10 ** 50), 0 if slip == 2 else 1)

    def test_need_without_a_bin(self):
        rules = BinRules(1, 1, 0, 20, 4, 4)
        bins = Bins(rules, BinCode("hang", "bin = size - 8"), BinCode("ask", "if 9 < len\nno\nend\nbin = 0"))
        self.assertEqual(binverdicts.bin_kept(bins), ("order",))
        self.assertEqual(binverdicts.bin_case(bins, "safe"), (9, 8))
        self.assertEqual((binverdicts.bin_case(bins, "again"), binverdicts.bin_case(bins, "inside")), ((10, None), (1, None)))


def all_words(rules):
    """All words of a map."""
    for bits in product([0, 1], repeat=rules.bins):
        yield tuple(sum(bits[at + k] << k for k in range(rules.wide) if at + k < rules.bins)
                    for at in range(0, rules.bins, rules.wide))


def broken_by(rules, kind, words, number, told):
    """The promises that a play of a map code breaks."""
    ended, found, behind, roof = told
    if ended == "beyond":
        return ["inside"]
    if kind != "find":
        owed = list(words)
        owed[number // rules.wide] ^= 1 << (number % rules.wide)
        return [] if (behind, roof) == (tuple(owed), right_roof(owed)) else ["kept"]
    bins = [one for one in range(number, rules.bins) if words[one // rules.wide] >> (one % rules.wide) & 1]
    if ended == "refused":
        return ["true"] if bins else []
    return (["true"] if found not in bins else []) + (["least"] if [one for one in bins if one < found] else [])


class AllBitsTest(unittest.TestCase):
    def broken_cases(self, maps):
        broken = {promise: {} for promise in MAP_PROMISES}
        for words in all_words(maps.rules):
            for kind in KINDS:
                for number in range(maps.rules.bins):
                    is_set = words[number // maps.rules.wide] >> (number % maps.rules.wide) & 1 == 1
                    if is_set == (kind == "mark") and kind != "find":
                        continue
                    told = play_map_again(maps.rules, maps.code_for(kind), words, number)
                    play = play_map(maps, kind, words, number)
                    self.assertEqual((play.ended, play.number, play.words, play.roof), told, maps.code_for(kind).text)
                    for promise in broken_by(maps.rules, kind, words, number, told):
                        broken[promise].setdefault(number, []).append((kind, words))
        return broken

    def check(self, maps):
        texts = [code.text for code in maps.codes]
        broken = self.broken_cases(maps)
        for promise, cases in broken.items():
            self.assertEqual(binverdicts.map_keeps(maps, promise), not cases, (promise, texts))
            for number in range(maps.rules.bins + 2):
                self.assertEqual(binverdicts.map_wrong(maps, promise, number), first_from(cases, number), (promise, texts))
                free = [one for one in range(maps.rules.bins) if one not in cases]
                self.assertEqual(binverdicts.map_right(maps, promise, number), first_from(free, number), (promise, texts))
            case = binverdicts.map_case(maps, promise)
            self.assertEqual(case is None, not cases, texts)
            if cases:
                self.assertEqual(case[2], min(cases))
                self.assertIn(case[:2], cases[case[2]])
                self.assertEqual(KINDS.index(case[0]), min(KINDS.index(kind) for kind, _ in cases[case[2]]))
        self.assertEqual(binverdicts.map_kept(maps), tuple([one for one in MAP_PROMISES if not broken[one]]))

    def test_right_maps(self):
        for bins, wide in ((4, 2), (3, 2), (1, 2), (6, 3), (5, 4)):
            rules = BinRules(1, 1, 0, 9, bins, wide)
            maps = BinMaps(rules, [MapCode(kind, text) for kind, text in zip(KINDS, good_maps(rules))])
            self.check(maps)
            self.assertEqual(binverdicts.map_kept(maps), MAP_PROMISES)

    def test_maps_with_slips(self):
        chance = BinChance(random.Random(30))
        for _ in range(160):
            bins, wide = chance.random.choice([(4, 2), (3, 2), (5, 3), (1, 2), (6, 3)])
            rules = BinRules(1, 1, 0, 9, bins, wide)
            self.check(BinMaps(rules, [chance.map_code(kind, text) for kind, text in zip(KINDS, good_maps(rules))]))

    def test_odd_codes(self):
        rules = BinRules(1, 1, 0, 9, 5, 3)
        good = good_maps(rules)
        for slips in ({0: "a = bin * 999999999999999999999999999999\ntell a"}, {1: "word 0 = p\nroof = p"}, {0: "none"},
                      {1: good[1].replace("roof = p", "p with 2\nroof = p")}, {2: good[2].replace("q without a", "q with a")},
                      {1: good[1] + "\np = word 1\np with 2\nword 1 = p"}, {2: "p = roof\nword 0 = p"},
                      {0: "p = roof\nif p empty\nnone\nend\na = first p\nq = word a\nb = first q\na = a * 3\na = a + b\ntell a"},
                      {0: "p with 1\np with 2\na = first p\nif p empty\nnone\nend\ntell a"}):
            self.check(BinMaps(rules, [MapCode(kind, slips.get(at, good[at])) for at, kind in enumerate(KINDS)]))

    def test_five_firsts(self):
        """A first bit that nothing reads is not worked out: five of them on five words of 16 bits are answered soon."""
        rules = BinRules(1, 1, 0, 9, 256, 16)
        good = good_maps(rules)
        firsts = "\n".join(f"p = word {at}\n{register} = first p" for at, register in enumerate("abcab"))
        maps = BinMaps(rules, [MapCode("find", firsts + "\ntell b"), MapCode("mark", good[1]), MapCode("clear", good[2])])
        self.assertEqual(binverdicts.map_kept(maps), ("kept",))
        self.assertEqual([binverdicts.map_right(maps, promise, 0) for promise in ("inside", "true", "least")], [None, None, 15])
        kind, words, number = binverdicts.map_case(maps, "true")
        self.assertIn("true", broken_by(rules, kind, words, number, play_map_again(rules, maps.codes[0], words, number)))
        small = BinRules(1, 1, 0, 9, 8, 3)
        for told in ("a", "b", "c", "bin"):
            code = MapCode("find", firsts.replace("word 3", "word 0").replace("word 4", "word 1") + f"\na = a + b * 2\ntell {told}")
            self.check(BinMaps(small, [code] + [MapCode(kind, text) for kind, text in zip(KINDS[1:], good_maps(small)[1:])]))

    def test_greatest_map(self):
        rules = BinRules(1, 1, 0, 9, 256, 16)
        good = good_maps(rules)
        maps = BinMaps(rules, [MapCode(kind, text) for kind, text in zip(KINDS, good)])
        self.assertEqual(binverdicts.map_kept(maps), MAP_PROMISES)
        slip = good[1] + "\nif bin is 200\np = word 3\nif p empty\np with 1\nword 3 = p\nend\nend"
        maps = BinMaps(rules, [maps.codes[0], MapCode("mark", slip), maps.codes[2]])
        self.assertEqual([binverdicts.map_wrong(maps, "kept", number) for number in (0, 200, 201)], [200, 200, None])
        kind, words, number = binverdicts.map_case(maps, "kept")
        play = play_map(maps, kind, words, number)
        self.assertEqual((kind, number, words[3], play.words[3]), ("mark", 200, 0, 2))


# It looks at its own word, and otherwise at the first one that the roof tells.
SHORT_FIND = ("a = bin // {w}\nb = bin mod {w}\np = word a\np from b\nif p empty\np = roof\na = first p\np = word a\nend\n"
              "b = first p\na = a * {w}\nb = b + a\n{end}")


class TogetherTest(unittest.TestCase):
    """Plays of find with nothing left but sums are looked at together; they tell what they tell one by one."""

    def setUp(self):
        self.open_answers = mapfindings.open_answers

    def tearDown(self):
        mapfindings.open_answers = self.open_answers

    def all_told(self, rules, codes):
        maps = BinMaps(rules, codes)
        return [(binverdicts.map_wrong(maps, promise, number), binverdicts.map_right(maps, promise, number))
                for promise in MAP_PROMISES for number in range(rules.bins)]

    def test_one_by_one(self):
        chance = BinChance(random.Random(31))
        ends = ["tell b", "b = b + 1\ntell b", "c = b\nb = c - 1\ntell b", "a = b + bin\ntell b", "c = b * 2\ntell c",
                "if b is 1\nb = 2\nend\ntell b", "b = 3\ntell b", "c = a - b\ntell c", "tell 2", "b = a",
                "if a is 1\na = a - 1\nelse\na = a + 4\nend\nc = b + a\ntell c"]
        for at in range(60):
            wide = chance.random.choice([2, 3, 4, 5])
            rules = BinRules(1, 4, 3, 1000, chance.random.choice([wide * wide, wide * wide - 1]), wide)
            texts = good_maps(rules)
            end = chance.random.choice(ends)
            text = SHORT_FIND.format(w=wide, end=end)
            find = MapCode("find", text)
            find = chance.map_code("find", text) if at % 2 else find
            codes = [find, MapCode("mark", texts[1]), MapCode("clear", texts[2])]
            with self.subTest(text=find.text, wide=wide, bins=rules.bins):
                mapfindings.open_answers = self.open_answers
                told = self.all_told(rules, codes)
                mapfindings.open_answers = lambda machine, kind, number: machine.answers
                self.assertEqual(self.all_told(rules, codes), told)


class ErrorsTest(unittest.TestCase):
    def setUp(self):
        rules = BinRules(1, 1, 0, 9, 4, 2)
        self.bins = Bins(rules, BinCode("hang", ""), BinCode("ask", ""))
        self.maps = BinMaps(rules, [MapCode(kind, "") for kind in KINDS])

    def test_promises(self):
        for one, names, promises in ((self.bins, ("bin_keeps", "bin_case"), ("true", "kept")),
                                     (self.maps, ("map_keeps", "map_case"), ("safe", "order"))):
            for promise in (*promises, "", None, 1, True, [], ("inside",), {}, object()):
                for name in names:
                    self.assertEqual(error_of(getattr(binverdicts, name), one, promise), ("BadPromise", promise))
        for name in ("bin_wrong", "bin_right", "bin_many"):
            self.assertEqual(error_of(getattr(binverdicts, name), self.bins, "true", -1), ("BadPromise", "true"))
        for name in ("map_wrong", "map_right"):
            self.assertEqual(error_of(getattr(binverdicts, name), self.maps, "safe", -1), ("BadPromise", "safe"))

    def test_numbers(self):
        for value in (-1, *NO_INTEGERS):
            for name in ("bin_wrong", "bin_right", "bin_many"):
                self.assertEqual(error_of(getattr(binverdicts, name), self.bins, "safe", value), ("BadNumber", value))
            for name in ("map_wrong", "map_right"):
                self.assertEqual(error_of(getattr(binverdicts, name), self.maps, "true", value), ("BadNumber", value))
            for name in ("bin_floor", "bin_ceiling", "ask_floor"):
                self.assertEqual(error_of(getattr(binverdicts, name), self.bins, value), ("BadNumber", value))


if __name__ == "__main__":
    unittest.main()
