"""Points [47] to [51]: the rules of deeds, the lines of their texts, and their limits."""

import unittest

from asking import NO_INTEGERS, error_of
from deedmakers import GOOD, GROWING
from tagblocks.deedcodes import Deed, DeedCode
from tagblocks.deedrules import DeedRules
from tagblocks.toprules import TopRules

KINDS = ("ask", "back", "change")


class RulesTest(unittest.TestCase):
    def test_rules(self):
        slots = [4, 16]
        rules = DeedRules(slots, 64, 3, 2)
        slots.append(99)
        self.assertEqual((rules.slots, rules.page, rules.least, rules.unit, rules.small()), ((4, 16), 64, 3, 2, 16))
        self.assertEqual([DeedRules([], 1, 1, 1).small(), DeedRules((1, 2, 3, 4), 1, 1, 16).small()], [0, 4])
        self.assertEqual(rules, DeedRules((4, 16), 64, 3, 2))
        for other in (DeedRules([4], 64, 3, 2), DeedRules([4, 16], 65, 3, 2), DeedRules([4, 16], 64, 5, 2),
                      DeedRules([4, 16], 64, 3, 1), None, (4, 16)):
            self.assertFalse(rules == other)

    def test_pieces(self):
        rules = DeedRules([4, 16], 64, 3, 2)
        for piece in (("place", 4), ("place", 16), ("block", 3), ("block", 5), ("block", 3 + 2 * 10 ** 40)):
            self.assertIs(rules.is_piece(piece), True)
        for piece in (("place", 5), ("block", 4), ("block", 2), ("block", 1), ("block", -1), ["place", 4], ("place",),
                      ("place", 4, 1), ("page", 64), (4, 4), ("place", True), ("block", None), (None, 3), *NO_INTEGERS):
            self.assertIs(rules.is_piece(piece), False)
        self.assertIs(DeedRules([1], 64, 1, 1).is_piece(("place", True)), False)

    def test_wrong_rules(self):
        for slots in ([0], [-1], [2, 2], [3, 2], [1, 2, 3, 4, 5], [True], ["1"], [None], None, 4):
            self.assertEqual(error_of(DeedRules, slots, 0, 0, 0), ("BadRule", "slots"))
        for value in [0, -1, *NO_INTEGERS]:
            self.assertEqual(error_of(DeedRules, [], value, 0, 0), ("BadRule", "page"))
            self.assertEqual(error_of(DeedRules, [], 1, value, 0), ("BadRule", "least"))
            self.assertEqual(error_of(DeedRules, [], 1, 1, value), ("BadRule", "unit"))
        self.assertEqual(error_of(DeedRules, [], 1, 1, 17), ("BadRule", "unit"))

    def test_top_rules(self):
        rules = TopRules(4, 8, 64, 4, keep=64, idle=256)
        self.assertEqual([rules.unit, rules.least, rules.page, rules.fence, rules.limit, rules.waste, rules.keep, rules.idle],
                         [4, 8, 64, 4, None, 0, 64, 256])
        self.assertEqual(rules, TopRules(4, 8, 64, 4, None, 0, 64, 256))
        for other in (TopRules(2, 8, 64, 4, keep=64, idle=256), TopRules(4, 12, 64, 4, keep=64, idle=256), None,
                      TopRules(4, 8, 68, 4, keep=64, idle=256), TopRules(4, 8, 64, 0, keep=64, idle=256),
                      TopRules(4, 8, 64, 4, 64, keep=64, idle=256), TopRules(4, 8, 64, 4, waste=1, keep=64, idle=256),
                      TopRules(4, 8, 64, 4, keep=63, idle=256), TopRules(4, 8, 64, 4, keep=64)):
            self.assertFalse(rules == other)
        TopRules(1, 1, 1, 0)
        TopRules(1, 1, 1, 1, 1, 0, 0, 2)
        TopRules(10 ** 29, 10 ** 29, 3 * 10 ** 29, 3 * 10 ** 29, 3 * 10 ** 29, 10 ** 29, 0, 4 * 10 ** 29)

    def test_wrong_top_rules(self):
        wrong = [("unit", 0, [0, -1]), ("least", 1, [0, 2, 6, 9]), ("page", 2, [0, 2, 66]), ("fence", 3, [-4, 2, 68]),
                 ("limit", 4, [0, 63, -1]), ("waste", 5, [-1]), ("keep", 6, [-1]), ("idle", 7, [0, 127, -1])]
        good = (4, 8, 64, 4, 64, 0, 64, 128)
        TopRules(*good)
        for name, at, values in wrong:
            for value in values + [one for one in NO_INTEGERS if one is not None or name not in ("limit", "idle")]:
                arguments = good[:at] + (value,) + ("x",) * (7 - at)
                self.assertEqual(error_of(TopRules, *arguments), ("BadRule", name), value)
    def test_numbers_of_top_rules_have_thirty_figures(self):
        first = 10 ** 30
        # For each name the greatest number of 30 figures that it can be, beside others that fit.
        most = {"unit": (first - 1, first - 1, first - 1, 0), "least": (4, first - 4, 64, 4),
                "page": (4, 8, first - 4, 4), "fence": (4, 8, first - 4, first - 4),
                "limit": (4, 8, 64, 4, first - 1), "waste": (4, 8, 64, 4, None, first - 1),
                "keep": (4, 8, 64, 4, None, 0, first - 1), "idle": (4, 8, 64, 4, None, 0, 0, first - 1)}
        for at, (name, numbers) in enumerate(most.items()):
            self.assertEqual(getattr(TopRules(*numbers), name), numbers[at])
            for great in (first, first + 4, 10 ** 60):
                arguments = numbers[:at] + (great,) + ("x",) * (7 - at)
                self.assertEqual(error_of(TopRules, *arguments), ("BadRule", name))
        self.assertEqual(error_of(TopRules, first, first, first, 0), ("BadRule", "unit"))
        self.assertEqual(error_of(TopRules, 4, 8, first, first), ("BadRule", "page"))
        # with keep of 30 nines idle would be a number of 31 figures
        self.assertEqual(error_of(TopRules, 4, 8, 64, 4, None, 0, first - 1, first + 63), ("BadRule", "idle"))
        TopRules(4, 8, 64, 4, None, 0, first - 65, first - 1)

    def test_idle_is_not_too_small(self):
        # idle is at least page and the greater one of keep and least.
        self.assertEqual(error_of(TopRules, 4, 8, 64, 4, None, 0, 0, 71), ("BadRule", "idle"))
        TopRules(4, 8, 64, 4, None, 0, 0, 72)


class LinesTest(unittest.TestCase):
    def code(self, text, kind="change"):
        return DeedCode(kind, text)

    def bad(self, text, line, kind="change"):
        self.assertEqual(error_of(DeedCode, kind, text), ("BadLine", line), text)

    def test_codes(self):
        for kind in KINDS:
            code = DeedCode(kind, GOOD[kind])
            self.assertEqual((code.kind, code.text, len(code)), (kind, GOOD[kind], GOOD[kind].count("\n") + 1))
            self.assertEqual([code[k + 1] for k in range(len(code))], GOOD[kind].split("\n"))
            self.assertEqual(code, DeedCode(kind, GOOD[kind]))
            self.assertFalse(code == GOOD[kind])
        self.assertEqual(len(DeedCode("back", "")), 0)
        self.assertFalse(DeedCode("ask", "hand none") == DeedCode("change", "hand none"))
        self.assertFalse(DeedCode("ask", "hand none") == DeedCode("ask", "hand p"))
        with self.assertRaises(TypeError):
            list(code)

    def test_deeds(self):
        rules, code = DeedRules([], 1, 1, 1), DeedCode("ask", "")
        deed = Deed(rules, code, 3)
        self.assertEqual((deed.rules, deed.code, deed.waste, Deed(rules, code).waste), (rules, code, 3, 0))
        self.assertEqual(deed, Deed(DeedRules([], 1, 1, 1), DeedCode("ask", ""), waste=3))
        for other in (Deed(rules, code), Deed(DeedRules([], 2, 1, 1), code, 3), Deed(rules, DeedCode("back", ""), 3), None):
            self.assertFalse(deed == other)
        for value in [-1, *NO_INTEGERS]:
            self.assertEqual(error_of(Deed, rules, code, value), ("BadNumber", value))

    def test_forms(self):
        sums = ["n", "own.room", "p.room + q.room", "small - page + least - 1", "a", "b + 999999999999999999999999999999"]
        for terms in sums:
            for word in ("take p", "top q", "slot p", "cut own", "cut p", "grow own", "grow q", "page own", "page q", "move p",
                         "a =", "b ="):
                self.code(f"{word} {terms}")
        for line in ("drop own p", "drop own q", "drop p q", "drop q p", "hang own", "hang p", "hang q", "hand own", "hand p",
                     "hand q", "hand none", "p = q", "q = p", "quit ok", "quit no", "if own is place\nend", "if p is block\nend",
                     "if not q is place and own.room < 3 and a is n and not n <= 0\nelse\nend"):
            self.code(line)
        for line in (" ", "take own n", "take p", "take n", "top own 1", "slot own 1", "move own 1", "move p", "cut p",
                     "cut p n n", "drop own own", "drop p p", "drop own", "drop p own", "drop own p q", "hang", "hang none",
                     "hang p q", "page p", "hand", "hand a", "p = own", "own = p", "p = p", "p = q + 1", "p = none", "a = p", "a =",
                     "n = 1", "small = 1", "quit", "no", "quit maybe", "quit ok ok", "if p is\nend", "if p is page\nend",
                     "if p is q\nend", "if n is n\nend", "if a < b + 1\nend", "a = n + n", "a = a + b + n + 1 + 2", "a = 01", "a = -1",
                     "a = room", "a = own", "a = 1000000000000000000000000000000", "else", "end", "on found", "take p n ", "Take p n",
                     "a = n * 2", "if\nend", "while n < a\nend", "if n < a and\nend"):
            self.bad(line, 1)

    def test_what_is_not_for_a_kind(self):
        for line in ("cut own 1", "grow own 1", "drop own p", "hang own", "page own 1", "hand own", "a = own.room", "move p 1",
                     "if own is place\nend", "if own.room < 1\nend"):
            self.bad(line, 1, "ask")
            DeedCode("back", line)
        for line in ("a = n", "take p n", "if n < 1\nend", "move p n"):
            self.bad(line, 1, "back")
        DeedCode("back", "move p 1")

    def test_blocks_of_steps(self):
        self.code("take p n\non found\nquit ok\nend\non none\nquit no\nend\nhand p")
        self.code("take p n\non none\nend\non found\nend")
        self.code("drop own p\non last\nhang p\nend\non more\nend\ngrow p n\non stuck\nend\non grown\nend\ncut p n\non kept\nend\n"
                  "on cut\nend\nslot p 1\non full\nend\non got\nend\ntop p 1\non shut\nend\non grown\nend")
        self.code("if n < 3\ntake p n\non none\nif a < b\ntop p n\non shut\nquit no\nend\nelse\nquit no\nend\nend\nend\nhand p")
        self.bad("take p n\nhand p\non found\nend", 3)
        self.bad("take p n\non found\nend\nhand p\non none\nend", 5)
        self.bad("take p n\non found\nend\non found\nend", 4)
        self.bad("take p n\non grown\nend", 2)
        self.bad("hang own\non found\nend", 2)
        self.bad("on found\nend", 1)
        self.bad("take p n\non\nend", 2)
        self.bad("take p n\non found none\nend", 2)
        self.bad("take p n\nif n < 3\non found\nend\nend", 3)
        self.bad("take p n\non found\non none\nend\nend", 3)
        self.bad("take p n\non found\nelse\nend", 3)
        self.bad("if n < 3\nend\non found\nend", 3)
        self.bad("if n < 3\ntake p n\nelse\non found\nend\nend", 4)
        self.bad("take p n\non found", 3)
        self.bad("take p n\non found\nend\nend", 4)
        self.bad("take p n\non found\ntop q n\nend\non grown\nend", 5)
        self.bad("take p n\non found\ntop q n\nend\non none\nend\nend", 7)
        self.bad("hand none\n", 2)
        self.bad("if n < 3\nelse\nelse\nend", 3)

    def test_kinds_and_counts(self):
        for kind in ("", "take", "Ask", None, 1, True, [], {}):
            self.assertEqual(error_of(DeedCode, kind, "?"), ("BadKind", kind))
        rows = ["hand none"] * 60
        self.code("\n".join(rows))
        self.assertEqual(error_of(DeedCode, "ask", "\n".join(rows + ["?"])), ("TooMany", "lines", 61, 60))
        self.code("if n < 1\nend\n" * 5 + "if n < 1\nend")
        ifs = "if n < 1\nend\n" * 7
        self.assertEqual(error_of(DeedCode, "ask", ifs + "hand none"), ("TooMany", "ifs", 7, 6))
        self.assertEqual(error_of(DeedCode, "ask", ifs + "?"), ("BadLine", 15))
        apart = "if n < 1\n%s\nquit ok\nend\n"
        steps = "take p n\ntop p n\nslot p n\ncut p n"
        self.code(apart % steps + apart % steps + steps)
        self.assertEqual(error_of(DeedCode, "change", apart % steps + apart % steps + steps + "\ngrow p n"),
                         ("TooMany", "steps", 13, 12))
        self.assertEqual(error_of(DeedCode, "change", ifs + "take p n\n" * 13 + "quit ok"), ("TooMany", "ifs", 7, 6))
        self.assertEqual(error_of(DeedCode, "change", "take p n\n" * 13 + "quit ok"), ("TooMany", "steps", 13, 12))

    def refused(self, text, line, kind="change"):
        self.assertEqual(error_of(DeedCode, kind, text), ("Refused", line), text)

    def test_limits(self):
        takes = "take p n\ntop q n\nslot p n\ntake q n\ntop p n"
        self.code(takes)
        self.refused(takes + "\nslot q n", 6)
        for line, most in (("cut p n", 2), ("grow own n", 1), ("drop own p", 1), ("page p n", 1), ("move p n", 1), ("a = n", 2),
                           ("b = 1", 2)):
            self.code("\n".join([line] * most))
            self.refused("\n".join(["hand none"] + [line] * (most + 1)), most + 2)
        self.code("a = 1\na = 2\nb = 1\nb = 2")
        self.code("if n < 3\nmove p 1\nelse\nmove p 2\nend")
        self.refused("if n < 3\nmove p 1\nend\nmove p 2", 4)
        self.code("if n < 3\nmove p 1\nquit ok\nend\nmove p 2")
        self.code("quit ok\nmove p 1\nmove p 2")

    def test_limits_on_ways_through_blocks_of_steps(self):
        # A way goes through one of the blocks of a step at most, and past all of them only if an outcome has none.
        self.code("take p n\non found\nmove p 1\nend\non none\nmove p 2\nend")
        self.refused("take p n\non found\nmove p 1\nend\non none\nend\nmove p 2", 7)
        self.code("take p n\non found\nquit ok\nend\non none\nquit no\nend\nmove p 1\nmove p 2")
        self.refused("take p n\non found\nquit ok\nend\nmove p 1\nmove p 2", 6)
        self.refused("cut own 1\non kept\ncut own 2\non cut\ncut own 3\nend\nend", 5)
        self.refused("a = 1\na = 2\nmove p 1\ntake p n\non none\nmove p 1\na = 3\nend\na = 3", 6)

    def test_growing(self):
        DeedCode("change", GROWING)


if __name__ == "__main__":
    unittest.main()
