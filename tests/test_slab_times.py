"""Some thousands of questions about slabs in words of 12 to 64 bits are answered in good time."""

import random
import time
import unittest

from asking import in_time
from slabmakers import SlabChance
from tagblocks.slabcodes import SlabCode
from tagblocks.slabplay import back_play, lay_play, take_play
from tagblocks.slabrules import SlabRules
from tagblocks.slabs import Slab
from tagblocks.slabverdicts import (slab_break, slab_case, slab_is_right, slab_keeps, slab_kept, slab_right_at, slab_wrong)

# For one question on the average, and for the slowest one.
MEAN = 0.02
MOST = 10
LAY = "a = size - head\na = a * wide\nmany = a // {part}\na = many + {less}\nmaps = a // wide"
TAKE = ("if used is many\nno\nend\nfind\na = word * wide\nnumber = a + bit\nb = number * each\nat = base + b\nset\n"
        "used = used + 1\nif used is many\nunlist\nend")
BACK = ("a = at - base\n{number}\nword = number // wide\nbit = number mod wide\nclear\nif used is many\nlist\nend\n"
        "used = used - 1\nif used is 0\nunlist\ndrop\nend")
PROMISES = {"lay": ("inside", "fits", "most"), "take": ("inside", "number", "own", "counts", "full"),
            "back": ("inside", "number", "own", "counts", "full", "odd", "twice")}
SLIPS = {"lay": [("// wide", "// 2"), ("size - head", "size"), ("many + ", "many - ")],
         "take": [("used + 1", "used + 2"), ("b = number * each", "b = number * 3"), ("if used is many\nunlist\nend", "quit")],
         "back": [("used - 1", "used - 2"), ("is 0", "is 1"), ("word = number // wide", "word = number // 3")]}


def texts_of(rules, shift):
    """Right texts, but for numbers of words that are too great; back divides by multiplying if there is a shift."""
    times = (1 << shift) // rules.each + 1
    number = "number = a // each" if shift == 0 else f"a = a * {times}\nnumber = a >> {shift}"
    return {"lay": LAY.format(part=rules.each * rules.wide + 1, less=rules.wide - 1), "take": TAKE, "back": BACK.format(number=number)}
CAREFUL_BACK = ("if at < base\nno\nend\na = at - base\nnumber = a // each\nb = number * each\nword = number // wide\n"
                "bit = number mod wide\nif number < many and b is a and is set\nclear\nif used is 1\nif many is 1\nlist\nend\n"
                "unlist\ndrop\nelse\nif used is many\nlist\nend\nend\nused = used - 1\nelse\nno\nend")


class SlabTimes(unittest.TestCase):
    def setUp(self):
        self.spent = 0
        self.many = 0

    def asked(self, question, *arguments):
        start = time.monotonic()
        told = in_time(MOST, question, *arguments)
        self.spent, self.many = self.spent + time.monotonic() - start, self.many + 1
        return told

    def check_time(self, least):
        self.assertGreater(self.many, least)
        self.assertLess(self.spent, MEAN * self.many)

    def rules(self):
        for wide in (12, 16, 20, 21, 32, 47, 64):
            for head, each in ((0, 1), (15, 10), (2, 6), (1, 31), (15, 23), (8, 22)):
                yield SlabRules(wide, head, each)

    def ask_all(self, rules, kind, text):
        """All questions about a code, each of a code that nothing is known of; what breaks is played."""
        kept = self.asked(slab_kept, rules, SlabCode(kind, text))
        for promise in PROMISES[kind]:
            code = SlabCode(kind, text)
            least = self.asked(slab_break, rules, code, promise, 0)
            self.assertEqual(promise in kept, least is None)
            case = self.asked(slab_case, rules, code, promise)
            self.assertEqual(self.asked(slab_keeps, rules, SlabCode(kind, text), promise), least is None)
            if least is None:
                self.assertIsNone(case)
                continue
            self.assertEqual(case if kind == "lay" else case[0], least)
            if promise not in ("odd", "twice"):
                self.assertFalse(self.asked(slab_right_at, rules, code, least))
            if promise == "inside" and (kind == "lay" or case[1] < 50):
                self.assertEqual(self.play(rules, code, case).ended, "beyond")

    def play(self, rules, code, case):
        """A play of the case that is told: the page has its lent places in front, but for take the one that is handed."""
        if code.kind == "lay":
            return lay_play(rules, code, case)
        many, used, handed = case
        if code.kind == "take":
            lent = list(range(handed)) + list(range(handed + 1, used + 1)) if used < many else list(range(many))
            return take_play(rules, code, (many, tuple(lent[:used])))
        place = (handed - rules.head - rules.least_maps(many)) // rules.each
        lent = sorted([place] + [one for one in range(used) if one != place][:used - 1])
        return back_play(rules, code, (many, tuple(lent)), handed)

    def test_right_codes_and_codes_with_a_slip(self):
        chance = random.Random(23)
        for rules in self.rules():
            for kind, text in texts_of(rules, chance.choice([0, 9, 12, 21])).items():
                one, other = chance.choice(SLIPS[kind])
                slip = SlabChance(chance, 5000).code(kind, 2, [text, CAREFUL_BACK if kind == "back" else text]).text
                for changed in (text, text.replace(one, other), slip):
                    with self.subTest(kind=kind, wide=rules.wide, head=rules.head, each=rules.each):
                        self.ask_all(rules, kind, changed)
        self.check_time(3000)

    def test_slabs(self):
        chance = random.Random(24)
        for rules in self.rules():
            for shift in (0, 12, 21):
                texts = texts_of(rules, shift)
                kind = chance.choice(["lay", "take", "back"])
                one, other = chance.choice(SLIPS[kind])
                for changed in (texts, {**texts, kind: texts[kind].replace(one, other)}):
                    with self.subTest(shift=shift, kind=kind, wide=rules.wide, head=rules.head, each=rules.each):
                        self.check_slab(Slab(rules, *[SlabCode(name, text) for name, text in changed.items()]))
        self.check_time(500)

    def check_slab(self, slab):
        first = slab.rules.head + 1 + slab.rules.each
        wrong = self.asked(slab_wrong, slab, 0)
        if wrong is None:
            self.assertTrue(self.asked(slab_is_right, slab, slab.rules.top))
        else:
            self.assertFalse(self.asked(slab_is_right, slab, wrong))
            self.assertEqual(self.asked(slab_wrong, slab, wrong), wrong)
            if wrong > first:
                self.assertTrue(self.asked(slab_is_right, slab, wrong - 1))
        later = self.asked(slab_wrong, slab, slab.rules.top // 2)
        self.assertTrue(later is None or later >= wrong)

    def test_the_questions_of_the_issue(self):
        back = BACK.format(number="a = a * 209715\nnumber = a >> 21")
        rules = SlabRules(64, 15, 10)
        for promise in ("number", "inside"):
            self.assertEqual(self.asked(slab_break, rules, SlabCode("back", back), promise, 0), 2)
        rules = SlabRules(47, 7, 22)
        lay = "a = size - head\na = a * wide\nmany = a // 1035\nb = many + 46\nmaps = b // wide"
        back = BACK.format(number="a = a * 187\nnumber = a >> 12")
        slab = Slab(rules, SlabCode("lay", lay), SlabCode("take", TAKE), SlabCode("back", back))
        self.assertFalse(self.asked(slab_is_right, slab, 5050))
        self.assertEqual(self.asked(slab_wrong, slab, 1628), 5050)

    def test_backs_that_multiply_and_backs_with_many_tests(self):
        back = {times: SlabCode("back", BACK.format(number=f"a = a * {times}\nnumber = a >> {shift}"))
                for times, shift in ((1425, 15), (1490, 15), (171, 10))}
        self.assertFalse(self.asked(slab_keeps, SlabRules(47, 15, 23), back[1425], "inside"))
        self.assertTrue(self.asked(slab_keeps, SlabRules(32, 8, 22), SlabCode("back", CAREFUL_BACK), "inside"))
        self.assertTrue(self.asked(slab_right_at, SlabRules(20, 1, 6), back[171], 3))
        rules = SlabRules(32, 3, 22)
        lay = SlabCode("lay", "a = size - head\na = a * wide\nmany = a // 705\nb = many + 31\nmaps = b // wide")
        self.assertEqual(self.asked(slab_wrong, Slab(rules, lay, SlabCode("take", TAKE), back[1490]), 840), 60193)
        self.assertLess(self.spent, 10 * MEAN)


if __name__ == "__main__":
    unittest.main()
