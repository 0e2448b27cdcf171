"""Promises [12] to [21]: plays of block codes on block cases."""

import itertools
import unittest

from asking import NO_INTEGERS, error_of
from blockmakers import TEXTS
from tagblocks.blockcodes import BlockCode
from tagblocks.blockplay import play_block
from tagblocks.blockrules import BlockRules

RULES = BlockRules(1, 4)
ROW = ((6, False), (5, True), (4, False), (7, True), (9, False))
CASE = (ROW, (4, 2, 0), 1, None)
ALONE = (((8, True),), (), 0, None)


def play(text, case=CASE, kind="free", rules=RULES):
    return play_block(BlockCode(kind, rules, text), case)


class CaseTest(unittest.TestCase):
    def assert_bad(self, case, kind="free", rules=RULES):
        self.assertEqual(error_of(play_block, BlockCode(kind, rules, ""), case), ("BadCase", case))

    def test_values_of_any_kind(self):
        for value in (*NO_INTEGERS, 1, (), (1, 2, 3, 4), list(ALONE), ALONE[:3], (*ALONE, None)):
            self.assert_bad(value)

    def test_rows(self):
        for row in ((), [(8, True)], ((8,),), ([8, True],), ((8, 1),), ((True, True),), ((3, True),), ((8, True, True),),
                    ((8.0, True),), ((8, None),), (8, True)):
            self.assert_bad((row, (), 0, None))
        self.assert_bad((((8, True), (4, False), (4, False)), (1, 2), 0, None))
        self.assert_bad((((8, True), (5, True)), (), 0, None), rules=BlockRules(2, 4))

    def test_rings(self):
        row = ((6, False), (5, True), (4, False))
        for ring in ((0,), (0, 2, 2), (0, 1, 2), [0, 2], (0, 0), (), None, (0, True), (0, 3), (0, "2")):
            self.assert_bad((row, ring, 1, None))
        for ring in ((0, 2), (2, 0)):
            self.assertEqual(play("quit", (row, ring, 1, None)).ended, "done")

    def test_own(self):
        for own in (0, 2, -1, 5, 4, True, None, "1"):
            self.assert_bad((ROW, (0, 2, 4), own, None))
        self.assert_bad((ROW, (0, 2, 4), 1, 4), kind="take")
        self.assertEqual(play("quit", (ROW, (0, 2, 4), 3, None)).ended, "done")

    def test_wants(self):
        row = ((8, True), (8, False))
        for kind, own, right, bad in (("take", 1, (4, 8, 100), (3, None, True, 0)), ("cut", 0, (4, 7, 8), (3, 9, None)),
                                      ("grow", 0, (9, 10 ** 40), (8, 4, None)), ("free", 0, (None,), (4, 8))):
            for want in right:
                self.assertEqual(play("quit", (row, (1,), own, want), kind).ended, "done")
            for want in bad:
                self.assert_bad((row, (1,), own, want), kind)
        self.assert_bad((((8, False),), (0,), 0, 9), "take", BlockRules(2, 4))


class WordsTest(unittest.TestCase):
    def test_words_at_the_start(self):
        nothing = play("", CASE)
        self.assertEqual(nothing.ended, "done")
        self.assertEqual(nothing.words, {
            0: ("head", 6, False, True), 1: ("next", "bin"), 2: ("prev", 11), 5: ("foot", 6),
            6: ("head", 5, True, False),
            11: ("head", 4, False, True), 12: ("next", 0), 13: ("prev", 22), 14: ("foot", 4),
            15: ("head", 7, True, False),
            22: ("head", 9, False, True), 23: ("next", 11), 24: ("prev", "bin"), 30: ("foot", 9),
            31: ("head", 0, True, False)})
        self.assertEqual(nothing.bin_links, {"next": 22, "prev": 0})
        self.assertEqual((nothing.wrote, nothing.lines(), nothing.sides()), ((), (), ()))

    def test_a_play_of_free(self):
        one = play(TEXTS["free"], CASE)
        self.assertEqual((one.ended, one.broken), ("done", ()))
        self.assertEqual([one.words[at] for at in (0, 1, 2, 14, 15)],
                         [("head", 15, False, True), ("next", 22), ("prev", "bin"), ("foot", 15), ("head", 7, True, False)])
        # What stood in the middle of the joined block has its role still.
        self.assertEqual((one.words[5], one.words[6], one.words[24]), (("foot", 6), ("head", 5, True, False), ("prev", 0)))
        self.assertEqual(one.bin_links, {"next": 0, "prev": 22})
        self.assertEqual(one.wrote, ((22, "next"), (0, "prev"), (22, "next"), ("bin", "prev"), (0, "head"), (14, "foot"),
                                     (15, "flag"), (0, "next"), (0, "prev"), (22, "prev"), ("bin", "next")))
        self.assertEqual(one.sides(), ((3, True), (12, True)))
        self.assertEqual(one.lines(), tuple([line for line in range(1, 30) if line not in (10, 20)]))

    def test_lines_and_sides(self):
        text = "if used own\na = 1\nelse\na = 2\nend\nif a is 2\nb = 1\nend\nquit\na = 5"
        one = play(text, ALONE)
        self.assertEqual((one.lines(), one.sides()), ((1, 2, 6, 9), ((1, True), (6, False))))
        two = play("if a < 1\nif used p\nend\nend", ALONE)
        self.assertEqual((two.ended, two.lines(), two.sides()), ("beyond", (1, 2), ((1, True),)))

    def test_marks_of_lines_that_write(self):
        text = ("p = own + 2\nhead own = 8 used used\nsize own = 8\nused own\nfree own\nahead used own\nahead free own\n"
                "foot own = 8\nnext p = own\nprev bin = p\np = next bin\nnext p = bin\nprev p = own")
        one = play(text, CASE)
        self.assertEqual(one.ended, "done")
        self.assertEqual(one.wrote, ((6, "head"), (6, "size"), (6, "flag"), (6, "flag"), (6, "flag"), (6, "flag"),
                                     (13, "foot"), (8, "next"), ("bin", "prev"), (22, "next"), (22, "prev")))
        self.assertEqual([one.words[at] for at in (6, 9, 13, 23, 24)],
                         [("head", 8, False, False), ("next", 6), ("foot", 8), ("next", "bin"), ("prev", 6)])
        self.assertEqual(one.bin_links, {"next": 22, "prev": 8})


class BeyondTest(unittest.TestCase):
    def assert_beyond(self, text, case=CASE, kind="free"):
        lines = text.split("\n")
        one = play(text, case, kind)
        self.assertEqual((one.ended, one.lines()[-1]), ("beyond", max([at + 1 for at, row in enumerate(lines) if row != "end"])), text)
        self.assertEqual(one.broken[:1], ("inside",))

    def assert_done(self, text, case=CASE, kind="free"):
        self.assertEqual(play(text, case, kind).ended, "done", text)

    def test_unset_places(self):
        for text in ("q = p", "q = p + 1", "a = size p", "a = size ahead p", "q = next p", "head p = 4 used used",
                     "size p = 4", "used p", "foot p = 4", "next p = own", "next own = p", "prev bin = p", "ahead free p",
                     "if used p\nend", "if ahead used p\nend", "if p is bin\nend"):
            self.assert_beyond(text)

    def test_the_stretch(self):
        # It goes from 0 to the head at 15; own is at 6.
        self.assert_done("p = own + 9\na = size p\nused p\nhead p = 7 used used")
        self.assert_beyond("p = own + 10\nhead p = 7 used used")
        self.assert_done("p = own - 6\na = size p")
        self.assert_beyond("p = own - 7\nhead p = 7 used used")
        self.assert_done("foot own = 10")
        self.assert_beyond("foot own = 11")
        self.assert_done("foot own = 1")
        self.assert_beyond("foot own = 0")
        self.assert_beyond("foot own = 1 - 2")
        self.assert_done("p = own + 8\nnext p = own")
        self.assert_beyond("p = own + 9\nnext p = own")
        self.assert_beyond("p = own + 8\nprev p = own")
        self.assert_beyond("p = own + 10\nnext own = p")
        self.assert_done("p = own + 9\nnext own = p\nprev bin = p")
        self.assert_beyond("p = own - 7\nq = own + 30\nif q is bin\nend\nfoot p = 20")

    def test_a_stretch_without_free_blocks(self):
        self.assert_done("p = own + 8\na = size p\nif used p and a is 0\nend", ALONE)
        self.assert_beyond("p = own + 9\nhead p = 4 used used", ALONE)
        self.assert_beyond("a = size ahead own", ALONE)
        used = (((4, True), (8, True), (5, True)), (), 1, None)
        self.assert_beyond("p = own - 4\na = size p", used)
        self.assert_beyond("a = size ahead own", used)
        self.assert_done("p = own + 8\na = size p\nfoot own = 9", used)
        self.assert_beyond("p = own + 8\na = size ahead p", used)

    def test_roles(self):
        self.assert_beyond("p = own + 1\na = size p")
        self.assert_beyond("p = own + 1\nused p")
        self.assert_beyond("p = own + 1\nsize p = 4")
        self.assert_beyond("q = next own")
        self.assert_beyond("q = prev own")
        self.assert_done("p = own + 5\nq = next p\nr = prev p")
        self.assert_done("a = size ahead own\nif a is 6\nend")
        self.assert_beyond("p = own + 5\na = size ahead p")
        self.assert_beyond("p = own - 6\na = size ahead p")
        self.assert_beyond("foot own = 1\na = size own")
        self.assert_beyond("p = own + 4\nprev p = bin\nq = next p")
        self.assert_done("p = own + 4\nnext p = bin\nq = next p\nif q is bin\nend")
        self.assert_done("foot own = 5\np = own + 5\na = size ahead p")
        self.assert_done("p = own + 2\nhead p = 3 free free\nsize p = 0\nused p\nahead used p\na = size p")
        self.assert_beyond("size own = 0 - 1")
        self.assert_beyond("head own = 3 - 4 used used")

    def test_outside_places(self):
        self.assert_done("p = next bin\nnext p = own\nprev p = bin\nnext bin = p\nnext own = p\nq = p\nif q is bin\nend")
        for text in ("a = size p", "a = size ahead p", "q = next p", "q = prev p", "head p = 9 free used", "foot p = 9",
                     "size p = 9", "used p", "ahead used p", "if used p\nend", "if ahead used p\nend"):
            self.assert_beyond("p = next bin\n" + text)

    def test_bin(self):
        self.assert_done("p = next bin\nq = prev bin\nnext bin = bin\nprev bin = own\np = next bin\nif p is bin\nend")
        for text in ("a = size p", "head p = 4 used used", "foot p = 4", "used p", "if used p\nend"):
            self.assert_beyond("next bin = bin\np = next bin\n" + text)
        self.assert_done("next bin = bin\np = next bin\nq = next p\nprev p = own\nif p is bin\nq = own\nend")
        self.assertEqual(play("next bin = bin\np = next bin\nif p is bin\nquit\nend\nused q", CASE).ended, "done")

    def test_lost_places(self):
        for start in ("p = next bin\nq = p + 1\n", "next bin = bin\np = next bin\nq = p - 0\n",
                      "p = next bin\nr = p + 1\nq = r - 1\n"):
            self.assert_done(start + "s = q\ns = q + 1\nif not q is bin\nend\nif q is bin\nused p\nend")
            for text in ("a = size q", "r = next q", "head q = 4 used used", "next q = bin", "next own = q", "prev bin = q",
                         "foot q = 1", "if used q\nend"):
                self.assert_beyond(start + text)

    def test_reckoned_addresses_are_never_outside(self):
        self.assert_beyond("p = own + 16\nnext p = bin")
        self.assert_beyond("p = own + 16\nnext bin = p")
        self.assert_done("p = own + 16\nq = p - 16\na = size q")

    def test_the_whole_sum_is_reckoned_first(self):
        self.assert_done("p = own - 4 + 2\na = size p")
        self.assert_beyond("p = own - 4\na = size p")

    def test_short_tests(self):
        self.assert_done("if used own and used own\nend\nif not used own and used p\nend")
        self.assert_beyond("if used own and used p\nend")

    def test_beyond_lines_change_nothing(self):
        one = play("a = size own\nfoot own = 11", CASE)
        self.assertEqual((one.wrote, one.words), ((), play("", CASE).words))


class PromisesTest(unittest.TestCase):
    def broken(self, text, case=CASE, kind="free", rules=RULES):
        return play(text, case, kind, rules).broken

    def test_right_codes(self):
        wide = (((4, True), (12, False), (4, True), (5, False)), (3, 1), 1, 5)
        self.assertEqual([self.broken(TEXTS["take"], wide[:3] + (want,), "take") for want in (4, 8, 9, 12, 13)], [()] * 5)
        self.assertEqual([play(TEXTS["take"], wide[:3] + (want,), "take").ended for want in (12, 13)], ["done", "refused"])
        for want in (4, 5):
            self.assertEqual(self.broken(TEXTS["cut"], CASE[:3] + (want,), "cut"), ())
        for want in (6, 9, 10):
            one = play(TEXTS["grow"], CASE[:3] + (want,), "grow")
            self.assertEqual((one.broken, one.ended), ((), "done" if want < 10 else "refused"))

    def test_rests_of_just_least_words(self):
        for least in (4, 5):
            rules = BlockRules(1, least)
            for kind, row, ring, whole in (("take", ((12, False), (9, True)), (0,), 12),
                                           ("grow", ((8, True), (9, False), (9, True)), (1,), 17),
                                           ("cut", ((12, True), (9, True)), (), 12)):
                for rest, many in ((least, 3), (least - 1, 2), (0, 2)):
                    one = play(TEXTS[kind], (row, ring, 0, whole - rest), kind, rules)
                    self.assertEqual((one.ended, one.broken), ("done", ()))
                    heads = [0]
                    while one.words[heads[-1]][1]:
                        heads.append(heads[-1] + one.words[heads[-1]][1])
                    self.assertEqual(len(heads) - 1, many, (kind, least, rest))

    def test_rings_with_others_between(self):
        for gaps in itertools.product(range(5), repeat=3):
            row = [(5, False), (6, True), (7, False), (4, True)] + [(4, False), (5, True)] * sum(gaps)
            others = list(range(4, len(row), 2))
            parts = [[others.pop() for _ in range(gap)] for gap in gaps]
            for one, two in ((0, 2), (2, 0)):
                case = (tuple(row), (*parts[0], one, *parts[1], two, *parts[2]), 1, None)
                self.assertEqual(self.broken(TEXTS["free"], case), ())
                for kind, want in (("cut", 4), ("cut", 6), ("grow", 9), ("grow", 11)):
                    self.assertEqual(self.broken(TEXTS[kind], case[:3] + (want,), kind), ())
                slipped = TEXTS["free"].replace("prev q = s\n", "")
                self.assertEqual(self.broken(slipped, case), ("ring",))

    def test_done_plays_that_do_nothing(self):
        self.assertEqual(self.broken("quit"), ("owed",))
        self.assertEqual(self.broken("quit", ALONE[:3] + (8,), "cut"), ())
        self.assertEqual(self.broken("quit", ALONE[:3] + (5,), "cut"), ())
        self.assertEqual(self.broken("quit", ALONE[:3] + (4,), "cut"), ("owed",))
        self.assertEqual(self.broken("quit", ALONE[:3] + (9,), "grow"), ("owed",))
        self.assertEqual(self.broken("no", ALONE[:3] + (9,), "grow"), ())
        self.assertEqual(self.broken("no", CASE[:3] + (9,), "grow"), ("full",))
        self.assertEqual(self.broken("no", CASE[:3] + (10,), "grow"), ())
        self.assertEqual(self.broken("used own\nno", CASE[:3] + (10,), "grow"), ("full",))

    def test_tiles(self):
        for text in ("size own = 4", "size own = 8", "size own = 3", "p = own + 9\nsize p = 6", "p = own + 9\nfree p",
                     "p = own + 9\nnext own = bin\nfoot p = 1", "size own = 0", "foot own = 1", "size own = 100"):
            self.assertEqual(self.broken(text), ("tiles",), text)
        two = BlockRules(2, 4)
        case = (((8, True), (4, True)), (), 0, None)
        split = "p = own + 4\nhead p = 4 used used\nsize own = 4"
        self.assertEqual(self.broken(split, case, "free", two), ("owed",))
        self.assertEqual(self.broken("p = own + 5\nhead p = 3 used used\nsize own = 5", case, "free", two), ("tiles",))

    def test_whole(self):
        for kind, kept, free in (("grow", (1, 4), (5, 8)), ("cut", (1, 3), (4, 5))):
            want = {"grow": 6, "cut": 4}[kind]
            for offset in kept:
                for text in (f"p = own + {offset}\nhead p = 4 used used", f"foot own = {offset + 1}",
                             f"p = own + {offset} - 1\nnext p = bin", f"p = own + {offset} - 2\nprev p = bin"):
                    self.assertIn("whole", self.broken(text, CASE[:3] + (want,), kind), text)
                    self.assertEqual(self.broken(text + "\nused s", CASE[:3] + (want,), kind), ("inside", "whole"))
            for offset in free:
                text = f"p = own + {offset}\nhead p = 4 used used\nhead own = 5 used free\nnext bin = own"
                self.assertNotIn("whole", self.broken(text, CASE[:3] + (want,), kind))
        self.assertEqual(self.broken("foot own = 2\nno", CASE[:3] + (6,), "grow"), ("whole", "full"))
        self.assertNotIn("whole", self.broken("foot own = 2"))

    def test_flags(self):
        self.assertEqual(self.broken("ahead used own", CASE[:3] + (5,), "cut"), ("flags",))
        self.assertEqual(self.broken("p = own + 9\nahead used p", CASE[:3] + (5,), "cut"), ("flags",))
        self.assertEqual(self.broken("p = own - 6\nahead free p", CASE[:3] + (5,), "cut"), ("flags",))

    def test_feet(self):
        self.assertEqual(self.broken("p = own + 5\nfoot p = 4", CASE[:3] + (5,), "cut"), ())
        self.assertEqual(self.broken("p = own + 7\nfoot p = 2", CASE[:3] + (5,), "cut"), ("feet",))
        self.assertEqual(self.broken("p = own + 8\nhead p = 4 used used", CASE[:3] + (5,), "cut"), ("feet",))

    def test_ring(self):
        for text in ("next bin = bin", "prev bin = bin", "p = own + 5\nnext p = bin", "p = own + 5\nprev p = bin",
                     "p = next bin\nnext p = bin", "p = next bin\nprev p = own", "prev bin = own"):
            self.assertEqual(self.broken(text, CASE[:3] + (5,), "cut"), ("ring",), text)
        swap = "p = own - 6\nq = own + 5\nr = next bin\nnext r = p\nprev p = r\nnext p = q\nprev q = p\nnext q = bin\nprev bin = q"
        self.assertEqual(self.broken(swap, CASE[:3] + (5,), "cut"), ())

    def test_units(self):
        rules = BlockRules(3, 6)
        case = (((9, False), (12, True), (6, False)), (2, 0), 1, None)
        one = play(TEXTS["free"], case, "free", rules)
        self.assertEqual((one.broken, one.words[0], one.words[27]), ((), ("head", 27, False, True), ("head", 0, True, False)))
        take = play(TEXTS["take"], (((12, False),), (0,), 0, 9), "take", rules)
        self.assertEqual((take.broken, take.words[0]), ((), ("head", 12, True, True)))

    def test_sizes_of_any_length(self):
        great = 10 ** 50
        case = (((great, False), (great, True), (great, False), (great, True)), (2, 0), 1, None)
        one = play(TEXTS["free"], case)
        self.assertEqual((one.broken, one.words[3 * great - 1]), ((), ("foot", 3 * great)))
        self.assertEqual(self.broken("p = own + " + "9" * 30, case), ("owed",))


if __name__ == "__main__":
    unittest.main()
