"""Points [59] to [61]: the lines of top codes, and their limits."""

import unittest

from asking import error_of
from tagblocks.topcodes import TopCode
from tagblocks.toprules import TopRules
from topmakers import LAZY, STOCK, WIDEN

RULES = TopRules(4, 8, 64, 4)


class CodesTest(unittest.TestCase):
    def bad(self, text, line, kind="grow"):
        self.assertEqual(error_of(TopCode, kind, RULES, text), ("BadLine", line), text)

    def refused(self, text, line, kind="grow", rules=RULES):
        self.assertEqual(error_of(TopCode, kind, rules, text), ("Refused", line), text)

    def test_codes(self):
        code = TopCode("grow", RULES, WIDEN)
        self.assertEqual((code.kind, code.rules, code.text, len(code)), ("grow", RULES, WIDEN, 14))
        self.assertEqual([code[k + 1] for k in range(14)], WIDEN.split("\n"))
        self.assertEqual(code, TopCode("grow", TopRules(4, 8, 64, 4), WIDEN))
        for other in (TopCode("grow", TopRules(4, 8, 64, 8), WIDEN), TopCode("grow", RULES, ""), WIDEN, None):
            self.assertFalse(code == other)
        self.assertFalse(TopCode("grow", RULES, "quit") == TopCode("trim", RULES, "quit"))
        self.assertEqual(len(TopCode("trim", RULES, "")), 0)
        TopCode("grow", RULES, STOCK.format(waste=9))
        TopCode("trim", RULES, LAZY.format(idle=9, keep=8))
        with self.assertRaises(TypeError):
            list(code)

    def test_forms(self):
        for line in ("a = size", "b = top - unit + least - 3", "c = page + fence + a + b", "a = a up 2", "a = a down unit", "a = 7 // page",
                     "a = need - top * 3", "a = a * unit", "a = b * page", "top = size - fence", "top = 0", "ask a", "ask page + a", "no", "quit", "if granted\nend", "if not granted and a < need\nelse\nend",
                     "a = a up 999999999999999999999999999999"):
            self.refused(line, 1) if "999" in line else TopCode("grow", RULES, line)
        for line in ("give a", "give top - 64", "quit", "top = top - a", "if top is size\nend"):
            TopCode("trim", RULES, line)
        for line in ("a = need", "ask 64", "no", "if granted\nend", "if need < a\nend", "top = need"):
            self.bad(line, 1, "trim")
        for line in ("give 64", "a = a up 1", "a = a down 0", "a = a * 1", "a = a // least", "a = a up size", "a = a up", "a = up 4", "top = a up page",
                     "top = a * 2", "top = a // 2", "size = a", "need = a", "d = a", "ask", "ask a up page", "ask a *", "a = a mod 4", "a = a >> 2",
                     "a = a + a", "a = 01", "a = a - -1", "a = a + b + c + 1 + 2", "granted", "if granted is a\nend", "if a is a\nend", "if a < b + 1\nend",
                     "quit no", "no a", " quit", "quit ", "else", "end", "tell a", "a = limit", "a = a up 1000000000000000000000000000000"):
            self.bad(line, 1)
        self.bad("if a < b", 2)
        self.bad("if a < b\nelse\nelse\nend", 3)
        self.bad("quit\n", 2)

    def test_kinds_and_counts(self):
        for kind in ("", "Grow", "ask", None, 1, True, [], {}):
            self.assertEqual(error_of(TopCode, kind, RULES, "?"), ("BadKind", kind))
        TopCode("trim", RULES, "\n".join(["quit"] * 20))
        self.assertEqual(error_of(TopCode, "trim", RULES, "\n".join(["quit"] * 20 + ["?"])), ("TooMany", "lines", 21, 20))
        ifs = "if a < b\nend\n"
        TopCode("trim", RULES, ifs * 5 + "quit")
        self.assertEqual(error_of(TopCode, "trim", RULES, ifs * 6 + "a = a up 3"), ("TooMany", "ifs", 6, 5))
        self.bad(ifs * 6 + "?", 13, "trim")

    def test_limits(self):
        for line, most, kind in (("a = a up 2", 3, "grow"), ("a = a down 2", 3, "trim"), ("b = a // 2", 3, "grow"), ("c = 1", 3, "trim"),
                                 ("a = a * 3", 2, "grow"), ("ask page", 3, "grow"), ("give page", 2, "trim"), ("top = a", 2, "trim")):
            TopCode(kind, RULES, "\n".join([line] * most))
            self.refused("\n".join([line] * (most + 1)), most + 1, kind)
        TopCode("grow", RULES, "a = a up 2\nb = a down 2\nc = b // 2\na = a * 3\na = b * 7")
        self.refused("a = a up 2\nb = a down 2\nc = b // 2\nc = b // 2", 4)
        TopCode("grow", RULES, "if a < b\na = 1\na = 2\na = 3\nelse\na = 4\nend")
        self.refused("if a < b\na = 1\nend\na = 2\na = 3\na = 4", 6)
        TopCode("grow", RULES, "if a < b\nask page\nquit\nend\nask page\nask page\nask page\nquit\nask page")

    def test_divisors_that_go_together(self):
        TopCode("grow", RULES, "a = a up 2\nb = b down 128\na = a // 32")
        self.refused("quit\na = a up 3", 2)
        self.refused("a = a up 12", 1)
        TopCode("grow", RULES, "a = a * 3\nb = b * 7")
        TopCode("grow", TopRules(1, 1, 6, 1), "a = a up 12\nb = b up 3")
        self.refused("a = a up 12\nb = b up 18", 2, rules=TopRules(1, 1, 6, 1))
        self.refused("a = a up 2\nb = b up 3", 2, rules=TopRules(1, 1, 6, 1))
        # A lesser line that breaks another limit is told first.
        self.refused("c = 1\nc = 2\nc = 3\nc = 4\na = a up 3", 4)
        self.refused("a = a up 3\nc = 1\nc = 2\nc = 3\nc = 4", 1)


if __name__ == "__main__":
    unittest.main()
