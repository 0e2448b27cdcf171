"""Questions about maps of which a play can go very many ways are answered in good time, and as other plays tell."""

import random
import unittest

from asking import in_time
from binmakers import BinChance, play_map_again
from tagblocks import mapfindings
from tagblocks.bincodes import BinMaps, MapCode
from tagblocks.binplay import play_map
from tagblocks.binrules import BinRules
from tagblocks.binverdicts import map_case, map_keeps, map_kept, map_right, map_wrong
from test_binverdicts import MAP_PROMISES, broken_by, good_maps

SECONDS = 60
CODES = {
    "sums": (["p = word {0}\np with {last}\na = first p", "p = word {1}\np with {last}\nb = first p\na = a + b",
              "p = word {2}\np with {last}\nb = first p\na = a + b", "p = word {3}\np with {last}\nb = first p\na = a + b",
              "p = word {4}\np with {last}\nb = first p\na = a + b"], "a = a mod {wide}\np = word a\nnone"),
    "digits": (["p = word {0}\np with {last}\na = first p"] + ["a = a * {wide}\np = word {%d}\np with {last}\nb = first p\n"
               "a = a + b" % k for k in range(1, 4)], "b = a // {square}\nb = b mod {wide}\np = word b\np from b\n"
               "tell a"),
    "bits": (["p = word {0}\np with {last}\na = first p", "q = word {1}\nq with {last}\nb = first q\na = a + b",
              "p = word {2}\np with {last}\nb = first p"], "c = a // 2\np = word c\np from b\nif p empty\nnone\nend\nb = first p\n"
             "c = c * {wide}\nb = b + c\ntell b"),
    "compared": (["p = word {0}\np with {last}\na = first p", "p = word {1}\np with {last}\nb = first p",
                  "p = word {2}\np with {last}\nc = first p", "p = word {3}\np with {last}\nb = first p"],
                 "if a < b and b <= c\na = a * 7 \nend\nb = a - c * 3\nb = b + a mod 11\nif b is 10\np = word b\nend\ntell b"),
    "hops": (["p = word bin\np with {last}\na = first p", "p = word a\np with {last}\na = first p",
              "p = word a\np with {last}\na = first p"], "p = word a\np from a\na = a * {wide}\nif p empty\n"
             "none\nend\nb = first p\nb = a + b\ntell b"),
}


def find_text(rules, name, words):
    """The text of a find with several lines with first, whose words are told by some numbers."""
    rows, tail = CODES[name]
    text = "\n".join(rows + [tail]).replace(" \n", "\n")
    if name == "hops":
        text = "b = bin // %d\n" % rules.wide + text.replace("word bin", "word b")
    return text.format(*words, last=rules.wide - 1, wide=rules.wide, square=rules.wide * rules.wide)


def maps_of(rules, find):
    good = good_maps(rules)
    return BinMaps(rules, [MapCode("find", find), MapCode("mark", good[1]), MapCode("clear", good[2])])


class Times(unittest.TestCase):
    def check_shown(self, maps, promise, case):
        """A case that is told has to break the promise when it is played again."""
        kind, words, number = case
        play = play_map_again(maps.rules, maps.code_for(kind), words, number)
        self.assertIn(promise, broken_by(maps.rules, kind, words, number, play))
        self.assertEqual(play[0], play_map(maps, kind, words, number).ended)

    def test_hard_codes(self):
        for wide, bins in ((8, 64), (8, 50), (16, 256), (16, 200)):
            rules = BinRules(1, 1, 0, 1000, bins, wide)
            for name in CODES:
                words = [0, 1, 2, 3, 4] if wide == 8 else [12, 3, 7, 0, 5]
                with self.subTest(wide=wide, bins=bins, code=name):
                    self.ask_all(maps_of(rules, find_text(rules, name, words)))

    def ask_all(self, maps):
        """Asks all questions about maps."""
        kept = in_time(SECONDS, map_kept, maps)
        bins = maps.rules.bins
        for promise in MAP_PROMISES:
            case = in_time(SECONDS, map_case, maps, promise)
            self.assertEqual(case is None, promise in kept)
            self.assertEqual(in_time(SECONDS, map_keeps, maps, promise), promise in kept)
            if case is not None:
                self.check_shown(maps, promise, case)
                self.assertEqual(in_time(SECONDS, map_wrong, maps, promise, 0), case[2])
            last = in_time(SECONDS, map_wrong, maps, promise, bins - 1)
            self.assertIn(last, (None, bins - 1))
            right = in_time(SECONDS, map_right, maps, promise, bins - 1)
            self.assertEqual(right, bins - 1 if last is None else None)

    def test_both_ways_tell_the_same(self):
        """Plays looked at one by one, and all plays in one circuit."""
        chance = BinChance(random.Random(77))
        most = mapfindings.MOST_PLAYS
        self.addCleanup(setattr, mapfindings, "MOST_PLAYS", most)
        for _ in range(40):
            bins, wide = chance.random.choice([(9, 3), (7, 4), (16, 4), (13, 5)])
            rules = BinRules(1, 1, 0, 99, bins, wide)
            codes = [chance.map_code(kind, text) for kind, text in zip(("find", "mark", "clear"), good_maps(rules))]
            told = []
            for plays in (10 ** 9, 0):
                mapfindings.MOST_PLAYS = plays
                maps = BinMaps(rules, codes)
                told.append([map_kept(maps)] + [[map_wrong(maps, promise, n), map_right(maps, promise, n)]
                                                for promise in MAP_PROMISES for n in (0, 3, bins - 1)])
            self.assertEqual(told[0], told[1], [code.text for code in codes])


if __name__ == "__main__":
    unittest.main()
