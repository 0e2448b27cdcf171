"""Points [56] to [64]: plays of top codes and verdicts on them, compared with plays of all cases to some bound."""

import random
import unittest

from asking import NO_INTEGERS, error_of
from tagblocks import topverdicts
from tagblocks.errors import BlockError
from tagblocks.topcodes import TopCode
from tagblocks.topplay import play_top
from tagblocks.toprules import TopRules
from tagblocks.topverdicts import (least_swing, least_top_case, swing_case, top_is_right, top_keeps, top_kept,
                                   top_next_wrong)
from topmakers import LAZY, PROMISES, STOCK, WIDEN, TopAgain, TopChance, cases_of, good_texts

PAGES, NEEDS = 4, 16
SMALL = TopRules(4, 8, 64, 4, keep=64, idle=256)


def key_of(kind, case):
    """By what cases are compared."""
    return (case[2], case[0], case[1]) if kind == "grow" else (case[1], case[0])


def chance_rules(chance):
    unit = chance.choice([1, 1, 2, 3])
    least, page = unit * chance.randint(1, 3), unit * chance.randint(1, 5)
    keep = chance.choice([0, 0, 2 * unit, 5])
    idle = chance.choice([None, 0, chance.randint(0, 6)])
    limit = chance.choice([None, None, page * chance.randint(1, 3), 2 * page + chance.randint(0, 3)])
    return TopRules(unit, least, page, unit * chance.randint(0, page // unit), limit, chance.choice([0, 0, 1, page, 2 * page + 1]),
                    keep, None if idle is None else page + max(keep, least) + idle)


class PlayTest(unittest.TestCase):
    def play(self, text, case, rules=SMALL):
        code = TopCode("grow" if len(case) == 3 else "trim", rules, text)
        play, again = play_top(code, case), TopAgain(code, case)
        self.assertEqual((play.ended, play.size, play.top, play.asks, play.gives, play.broken, play.lines()),
                         (again.ended, again.worths["size"], again.worths["top"], tuple(again.asks), tuple(again.gives),
                          again.broken(), tuple(sorted(again.played))), (text, case))
        return play

    def test_up_and_down_of_sums_below_0(self):
        for sign, told in (("up 8", 8), ("down 8", 8), ("// 8", 8)):
            play = self.play(f"a = top - 9 {sign}\na = a + 16\ntop = a", (64, 0))
            self.assertEqual(play.top, {"up 8": 8, "down 8": 0, "// 8": 14}[sign])

    def test_sums_that_are_no_multiples_or_below_0(self):
        for words, ended in (("0", "done"), ("64", "done"), ("63", "beyond"), ("1", "beyond"), ("top - 9", "beyond"), ("top - 72", "beyond")):
            play = self.play(f"ask {words}", (64, 8, 12))
            self.assertEqual((play.ended, len(play.asks)), (ended, 1 if ended == "done" else 0))
            self.assertEqual(self.play(f"give {words}", (192, 64)).ended, ended if words != "top - 9" else "beyond")
        self.assertEqual(self.play("top = 0 - 1", (64, 8)).ended, "beyond")
        self.assertEqual(self.play("a = 0 - 1", (64, 8)).ended, "done")

    def test_gives_of_all_that_the_top_has_and_more(self):
        self.assertEqual(self.play("give 64\ntop = top - 64\ngive 64\ntop = top - 64", (192, 128)).gives, (64, 64))
        play = self.play("give 64\ntop = top - 64\ngive 128\ntop = 0", (256, 128))
        self.assertEqual((play.ended, play.gives, play.size, play.top, play.lines()), ("beyond", (64,), 192, 64, (1, 2, 3)))
        self.assertEqual(self.play("give 128", (192, 128)).gives, (128,))
        self.assertEqual(self.play("give 128", (192, 124)).ended, "beyond")
        # What the code sets top to does not count.
        self.assertEqual(self.play("top = 640\ngive 128", (192, 64)).ended, "beyond")

    def test_granted(self):
        limit = TopRules(4, 8, 64, 4, limit=128)
        text = "if granted\ntop = 9\nend\nask 64\nif granted\na = 1\nend\nask 64\nif not granted\nno\nend"
        self.assertEqual(self.play(text, (64, 0, 8), limit).asks, ((64, True), (64, False)))
        self.assertEqual(self.play(text, (64, 0, 8), limit).ended, "refused")
        self.assertEqual(self.play(text, (64, 0, 8)).asks, ((64, True), (64, True)))
        self.assertEqual(self.play("ask 64", (64, 0, 8), TopRules(4, 8, 64, 4, limit=127)).asks, ((64, False),))
        self.assertEqual(self.play("ask 0", (64, 0, 8), TopRules(4, 8, 64, 4, limit=64)).asks, ((0, True),))

    def test_cases(self):
        rules = TopRules(4, 8, 64, 8, limit=128)
        grow, trim = TopCode("grow", rules, ""), TopCode("trim", rules, "")
        for case in ((0, 0, 8), (64, 0, 8), (64, 56, 60), (64, 8, 12), (128, 120, 10 ** 40)):
            self.assertEqual(play_top(grow, case).ended, "done")
            self.assertEqual(play_top(trim, case[:2]).ended, "done")
        for case in ((0, 0), (0, 0, 4), (0, 0, 9), (0, 8, 12), (32, 0, 8), (192, 0, 8), (64, 4, 8), (64, 60, 64), (64, 8, 8), (64, 12, 8), (64, 9, 12),
                     (-64, 0, 8), (64, -8, 8), [64, 0, 8], (64, 0, True), (64, None, 8), ("64", 0, 8), (64, 0, 8, 0), *NO_INTEGERS):
            self.assertEqual(error_of(play_top, grow, case), ("BadCase", case))
        for case in ((0, 0, 8), (64, 60), (64, 4), (0, 8), [64, 0], (64,), (64, True), *NO_INTEGERS):
            self.assertEqual(error_of(play_top, trim, case), ("BadCase", case))

    def test_keep_rest_and_idle_at_just_their_numbers(self):
        rules = TopRules(4, 8, 64, 4, keep=32, idle=128)
        for top, broken in ((36, ()), (32, ()), (28, ("keep",)), (8, ("keep",)), (4, ("rest", "keep")), (0, ("keep",))):
            play = self.play("give 64\ntop = top - 64", (256, top + 64), rules)
            self.assertEqual((play.top, play.broken), (top, broken))
        for top, broken in ((124, ()), (128, ("idle",)), (0, ()), (8, ())):
            self.assertEqual(self.play("", (256, top), rules).broken, broken)
        self.assertEqual(self.play("", (256, 128), TopRules(4, 8, 64, 4)).broken, ())

    def test_spare_and_full(self):
        rules = TopRules(4, 8, 64, 4, limit=256, waste=60)
        grown = "ask {}\na = size - fence\ntop = {}"
        for words, broken in ((64, ()), (128, ()), (192, ("spare",))):
            # 60 are missing with the fence; with waste 120, so 128 are let.
            self.assertEqual(self.play(grown.format(words, "a"), (0, 0, 56), rules).broken, broken)
        for need, size, broken in ((64, 192, ("full",)), (68, 192, ()), (128, 128, ("full",)), (132, 128, ()), (252, 0, ("full",)), (256, 0, ())):
            self.assertEqual(self.play("no", (size, 0, need), rules).broken, broken)
        self.assertEqual(self.play("no", (64, 0, 10 ** 30)).broken, ("full",))
        self.assertEqual(self.play("ask 64\nno", (64, 0, 200), rules).broken, ("true", "full"))
        self.assertEqual(self.play("ask 64\ntop = 64\nno", (64, 0, 200), rules).broken, ("full",))
        self.assertEqual(self.play("top = 64\nno", (128, 8, 200), rules).broken, ("true", "full"))

    def test_bases(self):
        # Memory without words, without a top, and with one.
        for case, top in (((0, 0, 60), 60), ((64, 0, 64), 64), ((64, 60, 64), 124)):
            play = self.play(WIDEN, case)
            self.assertEqual((play.top, play.broken), (top, ()))
        zero, whole = TopRules(4, 8, 64, 0), TopRules(4, 8, 64, 64)
        self.assertEqual(self.play(WIDEN, (0, 0, 64), zero).size, 64)
        self.assertEqual([self.play(WIDEN, (0, 0, 64), whole).size, self.play(WIDEN, (0, 0, 64), whole).broken], [128, ()])
        self.assertEqual(self.play("top = 8", (0, 0)).broken, ("true",))

    def test_chance_codes(self):
        chance = TopChance(random.Random(60))
        for _ in range(150):
            rules = chance_rules(chance.random)
            kind = chance.random.choice(["grow", "trim"])
            try:
                code = chance.code(kind, rules, good_texts(rules)[0 if kind == "grow" else 2])
            except BlockError:
                continue
            for case in cases_of(code, 3, 10):
                self.play(code.text, case, rules)


class VerdictsTest(unittest.TestCase):
    def check(self, code):
        kind = code.kind
        cases = list(cases_of(code, PAGES, NEEDS))
        found = {promise: [] for promise in PROMISES[kind]}
        for case in cases:
            for promise in TopAgain(code, case).broken():
                found[promise].append(case)
        for promise in PROMISES[kind]:
            told = least_top_case(code, promise)
            self.assertEqual(top_keeps(code, promise), told is None)
            owed = min(found[promise], key=lambda case: key_of(kind, case), default=None)
            if told is not None:
                self.assertIn(promise, TopAgain(code, told).broken(), code.text)
            if told != owed:
                # Only a case beyond the bounds may be less, or the only one.
                self.assertIsNotNone(told, (code.text, vars(code.rules), promise, owed))
                self.assertTrue(told[0] > PAGES * code.rules.page or (kind == "grow" and told[2] > NEEDS), (code.text, promise, told))
                self.assertTrue(owed is None or key_of(kind, told) < key_of(kind, owed))
            numbers = sorted({key_of(kind, case)[0] for case in found[promise]})
            for number in range(0, NEEDS + 1):
                least = min([one for one in numbers if one >= number], default=None)
                wrong = top_next_wrong(code, promise, number)
                self.assertTrue(least is None or number <= wrong <= least, (code.text, promise, number))
                if kind == "grow" and wrong in numbers:
                    self.assertFalse(top_is_right(code, wrong))
        self.assertEqual(top_kept(code), tuple([promise for promise in PROMISES[kind] if top_keeps(code, promise)]))
        for number in range(0, NEEDS):
            broken = [promise for promise in PROMISES[kind] if top_next_wrong(code, promise, number) == number]
            self.assertEqual(top_is_right(code, number), not broken)

    def test_right_codes(self):
        chance = random.Random(62)
        for _ in range(40):
            rules = chance_rules(chance)
            widen, stock, lazy = good_texts(rules)
            for text in (widen, stock):
                code = TopCode("grow", rules, text)
                self.check(code)
                self.assertEqual([promise for promise in ("inside", "true", "enough", "full") if not top_keeps(code, promise)], [])
            if rules.idle is not None:
                self.check(TopCode("trim", rules, lazy))

    def test_codes_with_slips(self):
        chance = TopChance(random.Random(63))
        for _ in range(250):
            rules = chance_rules(chance.random)
            kind = chance.random.choice(["grow", "grow", "trim"])
            good = good_texts(rules)
            try:
                self.check(chance.code(kind, rules, chance.random.choice(good[:2]) if kind == "grow" else good[2]))
            except BlockError:
                continue

    def test_slips_from_life(self):
        rules = TopRules(4, 8, 64, 4, limit=640)
        grow = {"old top forgotten in the asking": WIDEN.replace("need - top", "need"),
                "one page too many": WIDEN.replace("need - top", "need - top + page").replace(" up ", " down "),
                "rounded down": WIDEN.replace(" up ", " down "), "no whole pages": WIDEN.replace("a = a up page\n", ""),
                "fence forgotten": WIDEN.replace("a = a + fence", "a = a + 0"),
                "old top forgotten": WIDEN.replace("top = top + a", "top = a")}
        told = {name: [promise for promise in PROMISES["grow"] if not top_keeps(TopCode("grow", rules, text), promise)]
                for name, text in grow.items()}
        self.assertEqual(told, {"old top forgotten in the asking": ["spare", "full"], "one page too many": ["spare", "full"],
                                "rounded down": ["inside", "enough"], "no whole pages": ["inside"], "fence forgotten": ["enough"],
                                "old top forgotten": ["true", "enough"]})
        one = TopCode("grow", rules, grow["one page too many"])
        self.assertEqual([least_top_case(one, "spare"), top_next_wrong(one, "spare", 61)], [(0, 0, 60), 64])
        hasty = TopCode("grow", TopRules(4, 8, 64, 4, limit=128, waste=64),
                        STOCK.format(waste=64).replace("a = a up page\nask a\nif not granted\nno\nend\n", "no\n"))
        self.assertEqual(top_kept(hasty), ("inside", "true", "enough", "spare"))

    def test_great_numbers(self):
        great = 10 ** 28
        rules = TopRules(8, 16, 8 * great, 8, limit=80 * great, waste=great, keep=16, idle=9 * great)
        for text in good_texts(rules)[:2]:
            self.assertEqual(top_kept(TopCode("grow", rules, text)), PROMISES["grow"])
        slip = TopCode("grow", rules, WIDEN.replace("top = top + a", f"if {6 * great} < need\ntop = top + 8\nend\ntop = top + a"))
        self.assertEqual([top_kept(slip), top_next_wrong(slip, "true", 0), least_top_case(slip, "true")],
                         [("inside", "enough", "spare", "full"), 6 * great + 8, (8 * great, 0, 6 * great + 8)])
        self.assertEqual(top_next_wrong(slip, "true", 70 * great + 1), 70 * great + 8)
        trim = TopCode("trim", rules, LAZY.format(idle=rules.idle, keep=16))
        self.assertEqual(top_kept(trim), PROMISES["trim"])
        late = TopCode("trim", rules, LAZY.format(idle=rules.idle + 8, keep=16))
        self.assertEqual([top_kept(late), least_top_case(late, "idle")],
                         [("inside", "true", "rest", "keep"), (16 * great, 9 * great)])

    def test_swings(self):
        chance = TopChance(random.Random(64))
        for _ in range(60):
            rules = chance_rules(chance.random)
            good = good_texts(rules)
            try:
                grow = TopCode("grow", rules, good[0]) if chance.random.random() < .4 else chance.code("grow", rules, good[1])
                trim = TopCode("trim", rules, good[2]) if chance.random.random() < .4 else chance.code("trim", rules, good[2])
            except BlockError:
                continue
            found = [case for case in cases_of(grow, PAGES, NEEDS) if self.swings(grow, trim, case)]
            told = swing_case(grow, trim)
            owed = min(found, key=lambda case: key_of("grow", case), default=None)
            if told is not None:
                self.assertTrue(self.swings(grow, trim, told), (grow.text, trim.text))
            if told != owed:
                self.assertTrue(told[0] > PAGES * rules.page or told[2] > NEEDS, (grow.text, trim.text, vars(rules)))
            self.assertEqual(least_swing(grow, trim), None if told is None else told[2])
            for need in {case[2] for case in found}:
                self.assertEqual(least_swing(grow, trim, need), need)

    def swings(self, grow, trim, case):
        play = TopAgain(grow, case)
        if play.ended != "done" or {"true", "enough"} & set(play.broken()):
            return False
        again = TopAgain(trim, (play.worths["size"], play.worths["top"]))
        return again.ended == "done" and again.worths["top"] < case[2]

    def test_no_swings(self):
        rules = TopRules(4, 8, 64, 4)
        grow = TopCode("grow", rules, WIDEN)
        self.assertIsNone(least_swing(grow, TopCode("trim", rules, "")))
        self.assertIsNone(least_swing(grow, TopCode("trim", rules, "give 1")))
        self.assertIsNone(least_swing(TopCode("grow", rules, ""), TopCode("trim", rules, "top = 0")))
        self.assertEqual(swing_case(grow, TopCode("trim", rules, "top = 0")), (0, 0, 8))

    def test_errors(self):
        grow, trim = TopCode("grow", SMALL, ""), TopCode("trim", SMALL, "")
        for name, code, others in (("grow", grow, ("rest", "keep", "idle")), ("trim", trim, ("enough", "spare", "full"))):
            for promise in (*others, "", "even", None, 1, True, [], {}, ("inside",)):
                for question in (top_keeps, least_top_case):
                    self.assertEqual(error_of(question, code, promise), ("BadPromise", promise), name)
                self.assertEqual(error_of(top_next_wrong, code, promise, -1), ("BadPromise", promise))
            for value in (-1, *NO_INTEGERS):
                self.assertEqual(error_of(top_next_wrong, code, "inside", value), ("BadNumber", value))
                self.assertEqual(error_of(top_is_right, code, value), ("BadNumber", value))
        other = TopCode("trim", TopRules(4, 8, 64, 4), "")
        for one, two in ((trim, trim), (grow, grow), (trim, grow), (other, other)):
            self.assertEqual(error_of(least_swing, one, two, -1), ("OtherKinds", "top"))
            self.assertEqual(error_of(swing_case, one, two), ("OtherKinds", "top"))
        self.assertEqual(error_of(least_swing, grow, other, -1), ("OtherRules", "top"))
        self.assertEqual(error_of(swing_case, grow, other), ("OtherRules", "top"))
        for value in (-1, *NO_INTEGERS):
            self.assertEqual(error_of(least_swing, grow, trim, value), ("BadNumber", value))
        self.assertEqual(topverdicts.TOP_PROMISES, PROMISES)


if __name__ == "__main__":
    unittest.main()
