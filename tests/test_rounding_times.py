"""Questions about heads and roundings that are right, or have a slip, are answered in good time."""

import unittest

from asking import in_time
from tagblocks.headcodes import HeadCode
from tagblocks.headrules import HeadRules
from tagblocks.heads import Heads, Rounding
from tagblocks.headverdicts import head_right, head_wrong, round_alike, round_break, round_parting, round_right
from tagblocks.headverdicts import round_wrong

SECONDS = 20
ROUNDS = {
    "plain": "a = n + {up}\nif a < n\nno\nend\nsize = a &~ {low}\nif size < {least}\nsize = {least}\nend",
    "else": "a = n + {up}\nif not n <= a\nno\nelse\nsize = a &~ {low}\nend\nif size < {least}\nsize = {least}\nend",
    "twice": "a = n + {up}\nb = a &~ {low}\nif b < n\nno\nend\nif b < {least}\nb = {least}\nend\nsize = b",
    "rest": "a = n + {up}\nif a < n\nno\nend\nb = a & {low}\nsize = a - b\nif size < {least}\nsize = {least}\nend",
    "shift": "a = n + {up}\nif a < n\nno\nend\nb = a >> {shift}\nsize = b << {shift}\nif size < {least}\nsize = {least}\n"
             "end",
}
HEADS = [("make", "word = size + used\na = ahead << 1\nword = word + a"), ("size", "size = word &~ 3"),
         ("used", "used = word & 1"), ("ahead", "a = word >> 1\nahead = a & 1"), ("use", "word = word | 1"),
         ("free", "word = word &~ 1"), ("meet", "word = word | 2"), ("part", "word = word &~ 2")]


def rounding_of(rules, sort, slip=0):
    """A rounding for rules, right if there is no slip."""
    unit = rules.unit
    text = ROUNDS[sort].format(up=rules.over + unit - 1 - slip, low=unit - 1, least=rules.least,
                               shift=unit.bit_length() - 1)
    return Rounding(rules, HeadCode("round", text))


def many_rules():
    """Rules for words of many widths and units, with the sorts of texts that go with them."""
    for wide in (16, 23, 32, 64):
        for unit in (2, 64, 4096):
            for over in (0, 1, 26, unit):
                rules = HeadRules(unit, 2 * unit, over, wide, wide)
                yield rules, list(ROUNDS)


def plain_wrong(rounding, numbers):
    """The first one of some numbers at which a rounding is not right, told by the words of the document."""
    rules = rounding.rules
    for n in numbers:
        wanted = max(rules.least, (n + rules.over + rules.unit - 1) // rules.unit * rules.unit)
        owed = wanted if wanted < 2 ** rules.wide else None
        if rounding.size_for(n) != owed:
            return n
    return None


class Timed(unittest.TestCase):
    def asked(self, question, *arguments):
        """What a question is answered, which has to come in time."""
        return in_time(SECONDS, question, *arguments)


class Roundings(Timed):
    def test_right_ones_are_wrong_nowhere(self):
        for rules, sorts in many_rules():
            for sort in sorts:
                if sort == "twice" and rules.over + rules.unit > 2 * rules.least:
                    continue
                with self.subTest(sort=sort, unit=rules.unit, over=rules.over, wide=rules.wide):
                    rounding = rounding_of(rules, sort)
                    self.assertIsNone(self.asked(round_wrong, rounding, 3))
                    self.assertEqual(self.asked(round_right, rounding, 3), 3)

    def test_slips(self):
        for rules, sorts in many_rules():
            for sort in sorts[:2] + sorts[4:]:
                with self.subTest(sort=sort, unit=rules.unit, over=rules.over, wide=rules.wide):
                    slip = rounding_of(rules, sort, 1)
                    near = [n for n in range(3 * rules.unit + 2)]
                    wrong = self.asked(round_wrong, slip, 0)
                    self.assertEqual(wrong, plain_wrong(slip, near))
                    self.assertEqual(self.asked(round_parting, slip, rounding_of(rules, sort)), wrong)

    def test_alike(self):
        for rules, sorts in many_rules():
            for sort in sorts[1:2] + sorts[3:]:
                with self.subTest(sort=sort, unit=rules.unit, over=rules.over, wide=rules.wide):
                    self.assertTrue(self.asked(round_alike, rounding_of(rules, sort), rounding_of(rules, "plain")))

    def test_unit_one(self):
        for wide in (16, 20, 32, 64):
            for over in (1, 26, 4096):
                rules = HeadRules(1, 1, over, wide, wide)
                plain = Rounding(rules, HeadCode("round", "a = n + %d\nif a < n\nno\nend\nsize = a" % over))
                turned = Rounding(rules, HeadCode("round", "size = n + %d\nif n <= size\nquit\nend\nno" % over))
                less = Rounding(rules, HeadCode("round", "size = n + %d\nif n <= size\nquit\nend\nno" % (over - 1)))
                self.assertIsNone(self.asked(round_wrong, plain, 0))
                self.assertTrue(self.asked(round_alike, plain, turned))
                self.assertEqual(self.asked(round_parting, plain, less), 0)
                self.assertEqual(self.asked(round_wrong, less, 5), 5)
                self.assertEqual(self.asked(round_right, less, 0), 2 ** wide - over + 1 if over > 1 else None)

    def test_never_right(self):
        for wide in (16, 32, 64):
            for unit in (8, 4096):
                rules = HeadRules(unit, unit, 1, wide, wide)
                odd = Rounding(rules, HeadCode("round", "a = n + %d\nif a < n\nquit\nend\nsize = a &~ %d\n"
                                               "size = size + 1" % (unit, unit - 1)))
                self.assertEqual(self.asked(round_wrong, odd, 0), 0)
                self.assertIsNone(self.asked(round_right, odd, 0))
                self.assertIsNone(self.asked(round_break, odd, "full", 0))


class HeadsTest(Timed):
    def heads_of(self, rules, texts=()):
        changed = dict(texts)
        return Heads(rules, [HeadCode(kind, changed.get(kind, text)) for kind, text in HEADS])

    def test_heads(self):
        for wide in (16, 20, 32, 64):
            for unit in (4, 64, 4096):
                rules = HeadRules(unit, unit, 1, wide, wide)
                self.assertIsNone(self.asked(head_wrong, self.heads_of(rules), 0))
                self.assertEqual(self.asked(head_right, self.heads_of(rules), 0), unit)
                high = 2 ** (wide - 1)
                lost = self.heads_of(rules, [("size", "size = word &~ 3\nsize = size &~ %d" % high)])
                self.assertEqual(self.asked(head_wrong, lost, 0), high)
                self.assertIsNone(self.asked(head_right, lost, high))
                turned = self.heads_of(rules, [("meet", "word = word ^ 2")])
                self.assertEqual(self.asked(head_wrong, turned, 0), unit)
                self.assertIsNone(self.asked(head_right, turned, 0))


if __name__ == "__main__":
    unittest.main()
