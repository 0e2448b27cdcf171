"""Points [47] to [55]: verdicts on deeds, compared with plays of all honest rows of outcomes, with rooms to some bound."""

import random
import unittest

from asking import NO_INTEGERS, error_of
from deedmakers import GOOD, GROWING, PROMISES, Again, DeedChance, all_plays
from tagblocks import deedverdicts
from tagblocks.deedcodes import Deed, DeedCode
from tagblocks.deedplay import play_deed
from tagblocks.deedrules import DeedRules
from tagblocks.deedverdicts import (deed_case, deed_keeps, deed_kept, deed_next_handed, deed_next_piece, deed_next_wrong,
                                    deeds_meet)

BOUND = 7
LAST = 5
RULES = (DeedRules([2], 3, 1, 1), DeedRules([1, 3], 4, 1, 2), DeedRules([], 3, 2, 1), DeedRules([1, 2], 2, 3, 2),
         DeedRules([1, 2, 3, 4], 5, 2, 1))


def owns_of(deed):
    """All pieces own with rooms up to the bound."""
    if deed.code.kind == "ask":
        return [None]
    rules = deed.rules
    return [("place", slot) for slot in rules.slots] + [("block", room) for room in range(rules.least, BOUND + 1, rules.unit)]


def lengths_of(deed):
    return [None] if deed.code.kind == "back" else list(range(1, LAST + 1))


class VerdictsTest(unittest.TestCase):
    def shown(self, deed, promise, case):
        """A case that is told has to break the promise, played here and there."""
        own, n, answers = case
        self.assertIn(promise, Again(deed, own, n, answers).broken(), deed.code.text)
        self.assertIn(promise, play_deed(deed, own, n, answers).broken, deed.code.text)

    def check(self, deed):
        lengths = {promise: set() for promise in PROMISES}
        owns = {promise: set() for promise in PROMISES}
        both = {promise: set() for promise in PROMISES}
        handed = set()
        for n in lengths_of(deed):
            for own in owns_of(deed):
                for play, _ in all_plays(deed, own, n, BOUND):
                    for promise in play.broken():
                        lengths[promise].add(n)
                        owns[promise].add(own)
                        both[promise].add((n, own))
                    if play.told == "ok" and play.ended == "done" and play.hand is not None:
                        handed.add((play.hand["sort"], play.hand["room"]))
        for promise in PROMISES:
            self.check_promise(deed, promise, lengths[promise], owns[promise], both[promise])
        self.assertEqual(deed_kept(deed), tuple([promise for promise in PROMISES if deed_case(deed, promise) is None]))
        if deed.code.kind != "back":
            for sort, room in handed:
                self.assertEqual(deed_next_handed(deed, sort, room), room, (deed.code.text, sort))

    def check_promise(self, deed, promise, lengths, owns, both):
        case = deed_case(deed, promise)
        self.assertEqual(deed_keeps(deed, promise), case is None)
        self.assertTrue(case is not None or not owns, (deed.code.text, promise))
        if case is not None:
            self.shown(deed, promise, case)
            # There is none with a lesser length, and with this one none with a lesser room, or a place with the same.
            for n, own in both:
                self.assertLessEqual(case[1] or 0, n or 0)
                if n == case[1] and own is not None:
                    self.assertLessEqual((case[0][1], case[0][0] == "block"), (own[1], own[0] == "block"))
        if deed.code.kind != "back":
            for n in lengths_of(deed):
                told = deed_next_wrong(deed, promise, n)
                self.assertTrue(n not in lengths or told == n, (deed.code.text, promise, n, told))
                again = deed_case(deed, promise, n)
                self.assertEqual(None if again is None else again[1], told)
                if again is not None:
                    self.shown(deed, promise, again)
        if deed.code.kind != "ask":
            for sort, room in owns:
                self.assertEqual(deed_next_piece(deed, promise, sort, room), room, (deed.code.text, promise, sort))
            for sort in ("place", "block"):
                told = deed_next_piece(deed, promise, sort, 1)
                if told is not None:
                    self.assertTrue(deed.rules.is_piece((sort, told)))
                    self.assertIsNotNone(case)

    def test_right_deeds(self):
        for rules in RULES:
            for kind, text in (*GOOD.items(), ("change", GROWING)):
                deed = Deed(rules, DeedCode(kind, text))
                self.check(deed)
                self.assertEqual([promise for promise in PROMISES[:-1] if not deed_keeps(deed, promise)], [])

    def test_deeds_with_slips(self):
        chance = DeedChance(random.Random(55))
        for _ in range(300):
            kind = chance.random.choice(["ask", "back", "change", "change"])
            text = chance.random.choice([GOOD[kind], GROWING if kind == "change" else GOOD[kind]])
            self.check(Deed(chance.random.choice(RULES), chance.code(kind, text), chance.random.choice([0, 0, 1, 2])))

    def test_deeds_meet(self):
        chance = DeedChance(random.Random(56))
        for _ in range(60):
            rules = chance.random.choice(RULES)
            one = Deed(rules, chance.code("ask", GOOD["ask"]))
            kind = chance.random.choice(["back", "change"])
            other = Deed(rules, chance.code(kind, GOOD[kind]))
            for promise in PROMISES:
                met = deeds_meet(one, other, promise)
                able = []
                for sort in ("place", "block"):
                    for room in range(1, 30):
                        if deed_next_handed(one, sort, room) == room and deed_next_piece(other, promise, sort, room) == room:
                            able.append((room, sort == "block", sort))
                owed = (min(able)[2], min(able)[0]) if able else None
                self.assertTrue(met == owed or (owed is None and met[1] >= 30), (one.code.text, other.code.text, promise))

    def test_waste(self):
        rules = DeedRules([], 9, 1, 1)
        for waste in (0, 3, 10 ** 30):
            text = f"take p n\non none\nquit no\nend\ncut p n + {min(3, waste)}\nhand p"
            deed = Deed(rules, DeedCode("ask", text), waste)
            self.assertIs(deed_keeps(deed, "close"), True)
            if waste:
                self.assertEqual(deed_next_wrong(Deed(rules, deed.code, min(waste, 3) - 1), "close", 7), 7)

    def test_great_numbers(self):
        great = 10 ** 30 + 7
        rules = DeedRules([great, 2 * great], 5 * great, 3, 2)
        for kind, text in GOOD.items():
            deed = Deed(rules, DeedCode(kind, text))
            self.assertEqual(deed_kept(deed)[:5], PROMISES[:5])
        late = Deed(rules, DeedCode("ask", GOOD["ask"].replace("cut p n", f"if {10 ** 29} < n\ncut p n - 1\nelse\ncut p n\nend")))
        self.assertEqual(deed_next_wrong(late, "owed", 1), 2 * great + 2)
        self.assertEqual(deed_case(late, "owed")[1], 2 * great + 2)
        self.assertEqual(deed_next_wrong(late, "owed", 10 ** 45 + 1), 10 ** 45 + 2)
        cut = Deed(rules, DeedCode("change", f"if own is block and {10 ** 29} < own.room\ngrow own n\nend\nhand own"))
        self.assertEqual(deed_next_piece(cut, "owed", "block", 1), 3)
        self.assertEqual(deed_case(cut, "owed"), (("block", 3), 4, []))
        self.assertEqual(deed_next_handed(Deed(rules, DeedCode("ask", GOOD["ask"])), "block", 1), 2 * great + 1)

    def test_classes_of_rooms(self):
        """A room that is just n is there only for every third n."""
        rules = DeedRules([], 9, 4, 3)
        deed = Deed(rules, DeedCode("change", "if own.room is n\nhand none\nend"))
        self.assertEqual([deed_next_wrong(deed, "whole", n) for n in (1, 4, 5, 10 ** 30)], [4, 4, 7, 10 ** 30])
        self.assertEqual([deed_next_piece(deed, "whole", "block", room) for room in (1, 5, 8)], [4, 7, 10])
        self.assertIsNone(deed_next_piece(deed, "whole", "place", 1))


class ErrorsTest(unittest.TestCase):
    def setUp(self):
        self.deeds = {kind: Deed(RULES[0], DeedCode(kind, "")) for kind in GOOD}

    def test_promises(self):
        deed = self.deeds["back"]
        for promise in ("", "even", "Inside", None, 1, True, [], {}, ("inside",), object()):
            owed = ("BadPromise", promise)
            self.assertEqual(error_of(deed_keeps, deed, promise), owed)
            self.assertEqual(error_of(deed_next_wrong, deed, promise, 0), owed)
            self.assertEqual(error_of(deed_next_piece, self.deeds["ask"], promise, "?", 0), owed)
            self.assertEqual(error_of(deed_case, deed, promise, 0), owed)
            self.assertEqual(error_of(deeds_meet, deed, self.deeds["ask"], promise), owed)

    def test_kinds(self):
        owed = ("OtherKinds", "deeds")
        self.assertEqual(error_of(deed_next_wrong, self.deeds["back"], "inside", 0), owed)
        self.assertEqual(error_of(deed_next_piece, self.deeds["ask"], "inside", "?", 0), owed)
        self.assertEqual(error_of(deed_next_handed, self.deeds["back"], "?", 0), owed)
        other = Deed(RULES[1], DeedCode("back", ""))
        self.assertEqual(error_of(deeds_meet, other, self.deeds["back"], "inside"), owed)
        self.assertEqual(error_of(deeds_meet, self.deeds["change"], Deed(RULES[1], DeedCode("ask", "")), "inside"), owed)
        self.assertEqual(error_of(deeds_meet, self.deeds["ask"], other, "inside"), ("OtherRules", "deeds"))
        self.assertIsNone(deeds_meet(self.deeds["change"], self.deeds["change"], "inside"))

    def test_sorts_and_numbers(self):
        for sort in ("", "page", "Place", None, 1, True, [], {}):
            self.assertEqual(error_of(deed_next_piece, self.deeds["back"], "inside", sort, 0), ("BadKind", sort))
            self.assertEqual(error_of(deed_next_handed, self.deeds["ask"], sort, 0), ("BadKind", sort))
        for value in (0, -1, *NO_INTEGERS):
            owed = ("BadNumber", value)
            self.assertEqual(error_of(deed_next_wrong, self.deeds["ask"], "inside", value), owed)
            self.assertEqual(error_of(deed_next_piece, self.deeds["back"], "inside", "place", value), owed)
            self.assertEqual(error_of(deed_next_handed, self.deeds["ask"], "block", value), owed)
            for kind in GOOD:
                self.assertEqual(error_of(deed_case, self.deeds[kind], "inside", value), owed)
        self.assertEqual(deedverdicts.SORTS, ("place", "block"))


if __name__ == "__main__":
    unittest.main()
