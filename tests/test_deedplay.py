"""Points [48] to [55]: plays of deeds."""

import random
import unittest

from asking import NO_INTEGERS, error_of
from deedmakers import GOOD, GROWING, PROMISES, Again, DeedChance, all_plays
from tagblocks.deedcodes import Deed, DeedCode
from tagblocks.deedplay import play_deed
from tagblocks.deedrules import DeedRules

RULES = DeedRules([4, 16], 64, 3, 2)


def told(text, own=None, n=None, answers=(), kind=None, waste=0, rules=RULES):
    """The play of a text: of a change, or of an ask or a back where own or n is not told."""
    kind = kind or ("ask" if own is None else "back" if n is None else "change")
    return play_deed(Deed(rules, DeedCode(kind, text), waste), own, n, list(answers))


class PlaysTest(unittest.TestCase):
    def ends(self, ended, text, own=("block", 9), n=5, answers=(), **more):
        play = told(text, own, n, answers, **more)
        self.assertEqual(play.ended, ended, text)
        return play

    def test_registers_without_a_piece(self):
        for line in ("hang p", "hand p", "cut p 1", "grow p 1", "drop p q", "page p 1", "move p 1", "a = p.room", "if p is place\nend",
                     "if p.room < 3\nend", "take q p.room"):
            play = self.ends("beyond", line)
            self.assertEqual((play.told, play.taken, play.broken), (None, (), ("inside",)))
        self.ends("done", "p = q\nq = p")
        # A test asks its parts from the left.
        self.ends("done", "if own.room < 3 and p is place\nend")
        self.ends("beyond", "if own.room < 10 and p is place\nend")

    def test_pieces_that_went_back(self):
        for line in ("hang own", "hand own", "cut own 1", "grow own 1", "page own 1", "move p 1", "a = own.room", "drop own q",
                     "if own is block\nend", "hang p", "hand p", "a = p.room", "if p is block\nend"):
            self.ends("beyond", "take p 5\nhang own\nhang p\n" + line, answers=[("found", 5)])
        self.ends("done", "take p 5\nhang p\nq = p", answers=[("found", 5)])
        self.ends("beyond", "take p 5\nq = p\nhang p\nhang q", answers=[("found", 5)])
        self.ends("beyond", "drop own p\nhand own", own=("place", 4), answers=[("more", None)])
        self.ends("beyond", "page own 4\nhand own", own=("block", 65))

    def test_the_same_piece_in_two_registers(self):
        play = self.ends("done", "take p 5\nq = p\ncut q 5\na = p.room\nif a is 7\nhand p\nend\nhang own",
                         answers=[("found", 21), ("cut", 7)])
        self.assertEqual((play.hand, play.taken), (("block", 7), ((1, "found", 21), (3, "cut", 7))))
        play = self.ends("done", "take p 5\nhand p\ngrow p 9\ncut p 5\nhang own", answers=[("found", 5), ("grown", 11), ("cut", 9)])
        self.assertEqual((play.hand, play.broken), (("block", 9), ("owed",)))

    def test_places_and_blocks(self):
        for line in ("hang own", "cut own 1", "grow own 1", "page own 1"):
            self.ends("beyond", line, own=("place", 16))
        self.ends("beyond", "drop own p")
        self.ends("done", "drop own p", own=("place", 16), answers=[("more", None)])
        self.ends("done", "slot p 4\nmove p 4\nhand p\ndrop own q", own=("place", 16), n=4,
                  answers=[("got", None), ("more", None)])

    def test_sums(self):
        for word in ("take p", "top p", "slot p", "cut own", "grow own"):
            for terms in ("0", "n - 5", "n - 6"):
                self.ends("beyond", f"{word} {terms}")
        for word, answer in (("take p", ("found", 3)), ("top p", ("grown", 3)), ("slot p", ("got", None)), ("cut own", ("cut", 3)),
                             ("grow own", ("grown", 9))):
            self.assertEqual(len(self.ends("done", f"{word} n - 4", answers=[answer]).taken), 1)
        for amount, slot in ((1, 4), (4, 4), (5, 16), (16, 16)):
            play = self.ends("done", f"slot p {amount}\nhand p\nhang own", answers=[("got", None)])
            self.assertEqual(play.hand, ("place", slot))
        self.ends("beyond", "slot p small + 1")
        self.ends("beyond", "slot p 17", answers=[("got", None)])
        self.ends("beyond", "slot p 1", rules=DeedRules([], 64, 3, 2))
        self.ends("done", "cut own own.room", answers=[("kept", None)])
        self.ends("beyond", "cut own own.room + 1")
        self.assertEqual(self.ends("done", "cut own 1", answers=[("cut", 3)]).hand, ("block", 3))

    def test_pages(self):
        for own, amount, ended in (((65), 4, "done"), (65, 16, "done"), (65, 17, "beyond"), (65, 0, "beyond"), (63, 4, "beyond"),
                                   (65, "n - 6", "beyond")):
            self.ends(ended, f"page own {amount}", own=("block", own))
        self.ends("done", "page own 2", own=("block", 64), rules=DeedRules([2], 64, 2, 1))
        self.ends("beyond", "page own 2", own=("block", 63), rules=DeedRules([2], 64, 2, 1))

    def test_moves(self):
        take = "take p 7\n"
        for amount, ended in (("0", "done"), ("own.room", "beyond"), ("p.room", "done"), ("p.room + 1", "beyond"), ("n - 6", "beyond")):
            self.ends(ended, take + f"move p {amount}", answers=[("found", 7)])
        self.ends("done", take + "move p own.room", answers=[("found", 9)])
        self.ends("beyond", take + "move p own.room + 1", answers=[("found", 11)])
        swap = "take p 9\nmove p {}\nhand p\nhang own"
        for amount, broken in ((5, ("close",)), (4, ("owed", "close")), (9, ("close",))):
            self.assertEqual(self.ends("done", swap.format(amount), answers=[("found", 9)]).broken, broken)
        # All of own's words are owed where own's room was less than n.
        for amount, broken in ((9, ("close",)), (8, ("owed", "close"))):
            play = self.ends("done", "take p n\nmove p %d\nhand p\nhang own" % amount, n=11, answers=[("found", 11)])
            self.assertEqual(play.broken, broken)
        # What own lost by a cut is not moved; what was moved may be lost by a cut.
        play = self.ends("done", "cut own 3\ntake p n\ngrow own n\nmove p n\nhand p\nhang own",
                         answers=[("cut", 3), ("found", 5), ("grown", 5)])
        self.assertEqual(play.broken, ("owed", "close"))
        play = self.ends("done", "take p 9\nmove p n\ncut p 3\nhand p\ngrow p n\nhang own", answers=[("found", 9), ("cut", 3), ("grown", 5)])
        self.assertEqual(play.broken, ("owed",))
        play = self.ends("done", "take p 9\nmove p n\ncut p 3\nhand p\ngrow p n\nhang own", answers=[("found", 9), ("cut", 5), ("grown", 5)])
        self.assertEqual(play.broken, ())

    def test_outcomes_with_and_without_blocks(self):
        for word, good, bad in (("take p 5", ("found", 7), "none"), ("top p 5", ("grown", 7), "shut"), ("slot p 4", ("got", None), "full"),
                                ("cut own 5", ("cut", 5), "kept"), ("grow own 11", ("grown", 11), "stuck")):
            for answer in (good, (bad, None)):
                self.ends("done", word, answers=[answer])
                text = f"{word}\non {good[0]}\na = 1\nend\non {bad}\na = 2\nend\nif a is 1\nquit ok\nend\nquit no"
                play = self.ends("done", text, answers=[answer])
                self.assertEqual(play.told, "ok" if answer == good else "no")
                only = f"{word}\non {bad}\nquit no\nend\na = 1"
                self.assertEqual(self.ends("done", only, answers=[answer]).told, "ok" if answer == good else "no")
        for answer in (("more", None), ("last", 65)):
            play = self.ends("done", "drop own q\non last\nhang q\nquit no\nend", own=("place", 4), answers=[answer])
            self.assertEqual(play.told, "no" if answer[1] else "ok")
            self.ends("done" if answer[1] else "beyond", "drop own q\nhang q", own=("place", 4), answers=[answer])
        for word, bad in (("take p 5", "none"), ("top p 5", "shut"), ("slot p 4", "full")):
            self.ends("beyond", f"take p 5\n{word}\nhang p", answers=[("found", 5), (bad, None)])

    def test_blocks_in_one_another(self):
        text = ("if n < 9\ntake p n\non none\nif own is block\ntop p n\non shut\ngrow own n\non stuck\nquit no\nend\nquit ok\nend\n"
                "else\nquit no\nend\nend\ncut p n\nhand p\nhang own\nend")
        for answers, tells in (([("none", None), ("shut", None), ("stuck", None)], "no"), ([("none", None), ("grown", 5), ("kept", None)], "ok"),
                               ([("none", None), ("shut", None), ("grown", 9)], "ok"), ([("found", 11), ("cut", 7)], "ok")):
            play = self.ends("done", text, own=("block", 3), answers=answers)
            self.assertEqual((play.told, len(play.taken), play.ended), (tells, len(answers), "done"))
        self.assertEqual(self.ends("done", text, own=("place", 4), answers=[("none", None)]).told, "no")
        self.assertEqual(self.ends("done", text, n=9).told, "ok")

    def test_honest_rows(self):
        play = self.ends("done", "grow own n\non stuck\nquit no\nend", answers=[("stuck", None)])
        self.assertEqual((play.told, play.honest, play.broken), ("no", False, ()))
        play = self.ends("done", "grow own 10\non stuck\nquit no\nend", answers=[("stuck", None)])
        self.assertEqual((play.told, play.honest, play.broken), ("no", True, ()))
        text = "page own 4\nslot p %d\nslot q 4\nhand p"
        for amount, answers, honest in ((4, "full got", False), (4, "got full", True), (5, "full full", False), (5, "full got", True),
                                        (5, "got full", False)):
            play = self.ends("done" if "got" in answers.split()[0] else "beyond", text % amount, own=("block", 65),
                             answers=[(word, None) for word in answers.split()])
            self.assertIs(play.honest, honest)
            if not honest:
                self.assertEqual(play.broken, ())

    def test_promises(self):
        cases = [("hand none", ("block", 3), None, [], ("whole",)), ("hang own", ("block", 3), None, [], ("whole", "owed")),
                 ("", ("block", 3), None, [], ("owed",)), ("hang own\nhand none", ("block", 3), None, [], ()),
                 ("quit no", ("block", 3), None, [], ("told",)), ("hand none\nquit no", ("block", 3), None, [], ("whole", "back", "told")),
                 ("quit no", None, 5, [], ("told",)), ("", None, 5, [], ("owed",)),
                 ("take p n\non none\nquit no\nend\nhand p", None, 5, [("none", None)], ()),
                 ("take p n\nhand p", None, 5, [("found", 7)], ("close",)), ("take p n\nhand p", None, 5, [("none", None)], ("inside",)),
                 ("take p n\nhand p\nquit no", None, 5, [("found", 7)], ("back", "told")),
                 ("take p n - 1\ncut p n - 1\nhand p", None, 5, [("found", 5), ("kept", None)], ()),
                 ("take p n - 2\ncut p n - 2\nhand p", None, 5, [("found", 3), ("kept", None)], ("owed",)),
                 ("take p n\ncut p n + 1\nhand p", None, 5, [("found", 7), ("kept", None)], ("close",)),
                 ("slot p n\nhand p", None, 5, [("got", None)], ()), ("slot p n\nhand none", None, 5, [("got", None)], ("whole", "owed")),
                 ("cut own 3\nquit no", ("block", 7), 9, [("cut", 5)], ("back", "told")),
                 ("cut own 3\ngrow own 7\ntake p 9\nquit no", ("block", 7), 9, [("cut", 5), ("grown", 7), ("none", None)], ("back",)),
                 ("grow own 9\ntake p 9\nquit no", ("block", 7), 9, [("grown", 9), ("none", None)], ()),
                 ("take p n\nhang own\nhand p\nquit no", ("block", 7), 9, [("found", 9)], ("back", "told"))]
        for text, own, n, answers, broken in cases:
            self.assertEqual(told(text, own, n, answers).broken, broken, (text, own, n))
        for waste, broken in ((0, ("close",)), (1, ("close",)), (2, ()), (3, ())):
            play = told("take p n\ncut p n + 2\nhand p", None, 5, [("found", 9), ("cut", 7)], waste=waste)
            self.assertEqual(play.broken, broken)
            again = told("take p n\ncut p n\ncut p n + 2\nhand p", None, 5, [("found", 9), ("kept", None), ("kept", None)], waste=waste)
            self.assertEqual(again.broken, broken)

    def test_chance_deeds_played_again(self):
        chance = DeedChance(random.Random(48))
        for _ in range(150):
            rules = chance.random.choice([DeedRules([2], 3, 1, 1), DeedRules([1, 3], 4, 1, 2), DeedRules([], 3, 2, 1)])
            kind = chance.random.choice(["ask", "back", "change"])
            deed = Deed(rules, chance.code(kind, chance.random.choice([GOOD[kind], GROWING if kind == "change" else GOOD[kind]])), 1)
            own = None if kind == "ask" else chance.random.choice([("block", 3), *[("place", slot) for slot in rules.slots]])
            if own is not None and not rules.is_piece(own):
                continue
            n = None if kind == "back" else chance.random.randint(1, 6)
            for again, answers in all_plays(deed, own, n, 7):
                play = play_deed(deed, own, n, answers)
                hand = None if again.hand is None else (again.hand["sort"], again.hand["room"])
                self.assertEqual((play.ended, play.told, play.hand, play.honest, play.broken),
                                 (again.ended, again.told if again.ended == "done" else None, hand, True, again.broken()),
                                 (deed.code.text, own, n, answers))
                self.assertEqual([(word, room) for _, word, room in play.taken], answers)

    def test_great_numbers(self):
        great = 10 ** 40
        rules = DeedRules([great], 3 * great, 5, 1)
        deed = Deed(rules, DeedCode("change", GOOD["change"]))
        play = play_deed(deed, ("block", great), 2 * great, [("found", 3 * great), ("cut", 2 * great + 1)])
        self.assertEqual((play.hand, play.broken), (("block", 2 * great + 1), ()))
        again = Again(Deed(DeedRules([10], 30, 5, 1), deed.code), ("block", 10), 20, [("found", 30), ("cut", 21)])
        self.assertEqual((again.hand["room"], again.broken()), (21, ()))


class ErrorsTest(unittest.TestCase):
    def setUp(self):
        self.deeds = {kind: Deed(RULES, DeedCode(kind, GOOD[kind])) for kind in GOOD}

    def test_cases(self):
        for own, n in ((("place", 4), 3), (None, 0), (None, None), (None, True), (None, "3"), (("block", 3), None)):
            self.assertEqual(error_of(play_deed, self.deeds["ask"], own, n, None), ("BadCase", (own, n)))
        for own, n in ((None, None), (("block", 4), None), (("block", 3), 3), (["block", 3], None), (("place", 5), None)):
            self.assertEqual(error_of(play_deed, self.deeds["back"], own, n, []), ("BadCase", (own, n)))
        for n in (0, -1, *NO_INTEGERS):
            self.assertEqual(error_of(play_deed, self.deeds["change"], ("block", 3), n, []), ("BadCase", (("block", 3), n)))

    def test_answers(self):
        play = play_deed(self.deeds["ask"], None, 17, [("found", 17), ("kept", None), ("none", None), 5])
        self.assertEqual(play.taken, ((15, "found", 17), (22, "kept", None)))
        self.assertEqual(play_deed(self.deeds["ask"], None, 17, (("found", 17), ("kept", None))).told, "ok")
        self.assertEqual(error_of(play_deed, self.deeds["ask"], None, 17, []), ("BadOutcomes", "take"))
        self.assertEqual(error_of(play_deed, self.deeds["ask"], None, 17, [("found", 17)]), ("BadOutcomes", "cut"))
        self.assertEqual(error_of(play_deed, self.deeds["ask"], None, 17, [("none", None)]), ("BadOutcomes", "top"))
        for answer in (("found", 15), ("found", 18), ("found", None), ("found", True), ("none", 17), ("grown", 17), ("found",), "found",
                       ["found", 17], ("found", 17, 1), (None, None), (1, 2), ({}, None), *NO_INTEGERS):
            self.assertEqual(error_of(play_deed, self.deeds["ask"], None, 17, [answer]), ("BadOutcomes", "take"))
        for answer in (("got", 4), ("full", 4), ("found", 4), ("none", None)):
            self.assertEqual(error_of(play_deed, self.deeds["ask"], None, 4, [answer]), ("BadOutcomes", "slot"))
        for answer in (("cut", 17 + 8), ("cut", 15), ("cut", 18), ("cut", None), ("kept", 25)):
            self.assertEqual(error_of(play_deed, self.deeds["ask"], None, 17, [("found", 25), answer]), ("BadOutcomes", "cut"))
        for answer in (("last", 63), ("last", 64), ("last", None), ("more", 65), ("kept", None)):
            self.assertEqual(error_of(play_deed, self.deeds["back"], ("place", 4), None, [answer]), ("BadOutcomes", "drop"))
        growing = Deed(RULES, DeedCode("change", GROWING))
        for answer in (("grown", 17), ("grown", 20), ("grown", None), ("stuck", 19), ("shut", None)):
            self.assertEqual(error_of(play_deed, growing, ("block", 17), 19, [answer]), ("BadOutcomes", "grow"))
        less = Deed(RULES, DeedCode("change", "grow own 3"))
        for answer in (("grown", 5), ("grown", 3)):
            self.assertEqual(error_of(play_deed, less, ("block", 7), 5, [answer]), ("BadOutcomes", "grow"))
        self.assertEqual(play_deed(less, ("block", 7), 5, [("grown", 7)]).taken, ((1, "grown", 7),))

    def test_promises_are_those_of_the_document(self):
        self.assertEqual(PROMISES, ("inside", "whole", "owed", "back", "told", "close"))


if __name__ == "__main__":
    unittest.main()
