"""Points [66] to [72]: allocators."""

import random
import unittest

from asking import NO_INTEGERS, error_of
from programmakers import BLOCKS, CUT, FREE, LOOKING, PLACE, TAKE, Maker, deed_texts, head_texts, right_makers
from tagblocks.allocator import Allocator
from topmakers import WIDEN

# Heads in which the flags lie in front of the size, so that each size is kept.
SHIFTED = {("heads", kind): text for kind, text in head_texts(1).items()}
HUNG = "take p n\non none\ntop p n\non shut\nquit no\nend\nend\ncut p n\n"


def allocator(*arguments, **named):
    """An allocator of a program; texts tells other texts than the right ones."""
    return Allocator(Maker(*arguments, **named).program())


def changed(*arguments, texts, **named):
    return allocator(*arguments, texts=texts, **named)


class Model:
    """What is handed out, told without words of memory: names with the numbers of words that were asked for."""

    def __init__(self, chance, most):
        self.random, self.most, self.held = chance, most, {}

    def call(self, one):
        """Makes a call of chance; what it was, and what it told."""
        way = self.random.random()
        n = self.random.randint(1, self.random.choice([3, 12, 40, self.most]))
        if way < .5 or not self.held:
            told = one.ask(n)
            if told.told == "ok":
                self.held[told.number] = n
            return told
        name = self.random.choice(sorted(self.held))
        if way < .78:
            told = one.give_back(name)
            if told.told == "ok":
                self.held.pop(name)
            return told
        told = one.change(name, n)
        if told.told == "ok":
            self.held[name] = n
        return told

    def agrees(self, test, one):
        """Whether an allocator has what was handed out: each word is there once, all of them apart."""
        test.assertEqual(one.held_names(), tuple(sorted(self.held)))
        seen = set()
        for name, n in self.held.items():
            words = set(range(one.address_of(name), one.address_of(name) + n))
            test.assertEqual(len(words & seen), 0)
            seen |= words
            test.assertEqual(one.read(name), tuple((name, k) for k in range(n)))
        test.assertTrue(all(0 <= word < one.size for word in seen))


class RightTest(unittest.TestCase):
    def test_programs_of_right_parts(self):
        for at, maker in enumerate(right_makers()):
            one, model = Allocator(maker.program()), Model(random.Random(at), 90)
            for number in range(400):
                told = model.call(one)
                self.assertIn(told.told, ("ok", "no"))
                self.assertEqual((told.number, one.calls, one.broken), (number, number + 1, None))
                if number % 8 == 0:
                    self.assertEqual(one.faults(), ())
                    model.agrees(self, one)
            for name in one.held_names():
                self.assertEqual(one.give_back(name).told, "ok")
            self.assertEqual((one.faults(), one.held_names()), ((), ()))
            self.assertLessEqual(len(one.block_rows()), 1)

    def test_nothing_at_the_beginning(self):
        one = allocator()
        self.assertEqual((one.size, one.calls, one.broken, one.held_names(), one.block_rows(), one.faults()), (0, 0, None, (), (), ()))
        self.assertEqual(one.bin_rows(), ((),) * 12)

    def test_steps(self):
        one = allocator(4, 8, slots=[2, 6])
        told = one.ask(2)
        self.assertEqual(told.steps, (("slot", "full", None), ("take", "none", None), ("top", "grown", 59), ("cut", "cut", 31),
                                      ("page", None, 2), ("slot", "got", None), ("hand", None, None)))
        self.assertEqual(one.ask(10).steps, (("take", "found", 27), ("cut", "cut", 11), ("hand", None, None)))
        self.assertEqual(one.change(0, 2).steps, ())
        told = one.change(0, 3)
        self.assertEqual(told.steps[:4], (("slot", "full", None), ("take", "none", None), ("top", "grown", 79), ("cut", "cut", 31)))
        self.assertEqual(told.steps[4:], (("page", None, 6), ("slot", "got", None), ("move", None, 2), ("hand", None, None),
                                          ("drop", "last", 31), ("hang", None, None)))
        self.assertEqual(one.change(1, 13).steps, (("grow", "stuck", None), ("take", "found", 31), ("cut", "cut", 15), ("move", None, 11),
                                                   ("hand", None, None), ("hang", None, None)))
        self.assertEqual(one.give_back(1).steps, (("hang", None, None), ("hand", None, None)))
        self.assertEqual(one.give_back(0).steps, (("drop", "last", 31), ("hang", None, None), ("hand", None, None)))

    def test_words_of_the_user(self):
        one = allocator()
        one.ask(3)
        self.assertEqual((one.address_of(0), one.read(0)), (1, ((0, 0), (0, 1), (0, 2))))
        # Kept in its room: the new words are those from the number asked for before on.
        one.change(0, 7)
        self.assertEqual(one.read(0), tuple((0, k) for k in range(7)))
        one.change(0, 2)
        self.assertEqual(one.read(0), ((0, 0), (0, 1)))
        one.ask(1)
        one.change(0, 30)
        self.assertEqual((one.read(0), one.faults()), (tuple((0, k) for k in range(30)), ()))

    def test_memory_grows_and_goes_back(self):
        one = allocator(4, 8, pages=64, limit=192, keep=16, idle=96)
        self.assertEqual([one.ask(50).told, one.size, one.ask(100).told, one.size, one.ask(100).told], ["ok", 64, "ok", 192, "no"])
        self.assertEqual((one.held_names(), one.faults()), ((0, 1), ()))
        self.assertEqual([one.give_back(1).told, one.size, one.block_rows()], ["ok", 128, ((0, 52, True), (52, 72, False))])
        self.assertEqual([one.give_back(0).told, one.size, one.block_rows()], ["ok", 64, ((0, 60, False),)])

    def test_limits_just_reached_and_one_page_too_low(self):
        for limit, told in ((64, "ok"), (128, "ok")):
            self.assertEqual(allocator(limit=limit).ask(59).told, told)
        for limit, told in ((64, "no"), (127, "no"), (128, "ok")):
            self.assertEqual(allocator(limit=limit).ask(60).told, told)

    def test_fences(self):
        for fence in (4, 32, 64):
            one = allocator(fence=fence)
            one.ask(9)
            self.assertEqual((one.block_rows()[-1][0] + one.block_rows()[-1][1], one.faults()), (one.size - fence, ()))

    def test_sizes_of_no_words(self):
        for n, told in ((500, "ok"), (507, "ok"), (508, "no"), (511, "no"), (512, "no"), (4096, "no")):
            self.assertEqual(allocator(4, 8, wide=9).ask(n).told, told, n)
        refusing = changed(texts={("rounding", "round"): "if 9 < n\nno\nend\nsize = 12"})
        self.assertEqual([refusing.ask(9).told, refusing.ask(10).told, refusing.ask(10).steps[:2]],
                         ["ok", "no", (("take", "none", None), ("top", "shut", None))])

    def test_the_first_block_of_a_row(self):
        one = allocator(4, 8, idle=10 ** 6, limit=64 * 8)
        for n in (11, 3, 9, 3, 10, 3):
            one.ask(n)
        for name in (0, 2, 4):
            one.give_back(name)
        # The one that came last stands at the front; the bin that ask tells holds greater ones alone.
        rows = [row for row in one.bin_rows() if 0 in row][0]
        self.assertEqual(rows, (40, 20, 0))
        self.assertEqual((one.ask(3).told, one.address_of(9)), ("ok", 41))

    def test_looking(self):
        one = allocator(4, 8, classes=LOOKING, idle=10 ** 6)
        for n in (8, 3, 11, 3, 9, 3):
            one.ask(n)
        for name in (0, 4, 2):
            one.give_back(name)
        rows = [row for row in one.bin_rows() if 0 in row][0]
        self.assertEqual(rows, (20, 40, 0))
        # Sizes 12, 12 and 12: the first one that is large enough is the first one of the row.
        self.assertEqual([size for address, size, _ in one.block_rows() if address in rows], [12, 12, 12])
        one = allocator(1, 4, classes=LOOKING, idle=10 ** 6)
        for n in (8, 3, 14, 3, 10, 3, 20, 3):
            one.ask(n)
        for name in (2, 0, 4):
            one.give_back(name)
        blocks = {address: size for address, size, is_used in one.block_rows() if not is_used}
        rows = [row for row in one.bin_rows() if 0 in row][0]
        self.assertEqual([blocks[address] for address in rows], [11, 9, 15])
        # 12 words with the head: the first block of the row that has them is the last one.
        one.ask(12)
        self.assertEqual(one.address_of(11) - 1, rows[2])
        one.ask(16)
        self.assertIsNone(one.broken)


class NamesTest(unittest.TestCase):
    def test_names_without_a_piece(self):
        one = changed(texts={("deeds", "ask"): "if n is 5\nhand none\nquit ok\nend\n" + HUNG + "hand p"})
        self.assertEqual([one.ask(5).told, one.held_names(), one.address_of(0), one.read(0), one.size], ["ok", (0,), None, (), 0])
        self.assertEqual(one.faults(), (("data", 0),))
        self.assertEqual((one.change(0, 9).told, one.held_names(), one.calls), ("no", (), 2))
        one.ask(5)
        told = one.give_back(2)
        self.assertEqual((told.told, told.steps, told.number, one.held_names(), one.calls), ("ok", (), 3, (), 4))
        self.assertEqual(one.ask(6).number, 4)

    def test_refused_calls(self):
        one = changed(limit=64, texts={("deeds", "back"): "if own.room < 20\nhang own\nhand none\nquit ok\nend\nquit no"})
        one.ask(30)
        one.ask(10)
        self.assertEqual([one.give_back(0).told, one.held_names(), one.read(0)[29], one.give_back(1).told], ["no", (0, 1), (0, 29), "ok"])
        self.assertEqual([one.change(0, 70).told, one.read(0)[29], len(one.read(0)), one.faults()], ["no", (0, 29), 30, ()])
        # Behind a no the user has what is the hand then.
        other = changed(texts={("deeds", "change"): "hang own\nhand none\nquit no"})
        other.ask(8)
        self.assertEqual([other.change(0, 9).told, other.held_names(), other.address_of(0), other.faults()], ["no", (0,), None, (("data", 0),)])

    def test_wrong_calls(self):
        one = allocator()
        one.ask(5)
        for value in (1, -1, "0", 10 ** 30, *NO_INTEGERS):
            for question in (one.give_back, one.address_of, one.read):
                self.assertEqual(error_of(question, value), ("BadName", value))
            self.assertEqual(error_of(one.change, value, 0), ("BadName", value))
        for value in (0, -1, 4097, *NO_INTEGERS):
            self.assertEqual(error_of(one.ask, value), ("BadLength", value))
            self.assertEqual(error_of(one.change, 0, value), ("BadLength", value))
        self.assertEqual((one.calls, one.ask(4096).told), (1, "ok"))

    def test_broken_ones(self):
        one = changed(texts={("blocks", "free"): "a = size p"})
        one.ask(5)
        told = one.give_back(0)
        self.assertEqual((told.told, told.steps, told.number, one.calls, one.broken), (None, (), 1, 2, ("blocks", "free")))
        self.assertEqual((one.held_names(), one.read(0)), ((0,), tuple((0, k) for k in range(5))))
        self.assertEqual(error_of(one.ask, 5), ("Broken", "blocks"))
        self.assertEqual(error_of(one.ask, 0), ("BadLength", 0))
        self.assertEqual(error_of(one.give_back, 0), ("Broken", "blocks"))
        self.assertEqual(error_of(one.change, 0, 9), ("Broken", "blocks"))
        self.assertEqual(error_of(one.change, 1, 9), ("BadName", 1))
        self.assertEqual(one.calls, 2)


class BrokenTest(unittest.TestCase):
    def breaks(self, owed, calls, steps=None, **named):
        """An allocator that is broken at the last one of some calls."""
        one = allocator(**named)
        for at, (kind, *arguments) in enumerate(calls):
            told = getattr(one, kind)(*arguments)
            self.assertEqual(told.told is None, at == len(calls) - 1, (at, one.broken))
        self.assertEqual((one.broken, one.calls), (owed, len(calls)))
        if steps is not None:
            self.assertEqual(told.steps, steps)
        return one

    def test_each_way_to_be_broken(self):
        asked, back = [("ask", 9)], [("ask", 9), ("give_back", 0)]
        for (part, kind), text, calls in (
                (("blocks", "take"), "a = size p", asked), (("blocks", "free"), "foot own = 0", back), (("blocks", "cut"), "p = own - 1\nused p", asked),
                (("blocks", "grow"), "a = size ahead own", [("ask", 9), ("change", 0, 40)]), (("bins", "hang"), "bin = last + 1", asked),
                (("bins", "ask"), "bin = last + 1", asked), (("maps", "find"), "p = roof", asked), (("maps", "mark"), "a = first p", asked),
                (("maps", "clear"), "p with 4", asked), (("top", "grow"), "ask 1", asked), (("top", "trim"), "give 1", back),
                (("deeds", "ask"), "hang p", asked), (("deeds", "back"), "hang own\nhang own", back),
                (("deeds", "change"), "cut own 99", [("ask", 9), ("change", 0, 3)])):
            with self.subTest(part=part, kind=kind):
                self.breaks((part, kind), calls, texts={(part, kind): text})
        growing = [("ask", 9), ("ask", 9), ("change", 0, 40)]
        for kind in ("any", "apart"):
            self.breaks(("moves", kind), growing, kind=kind, texts={("moves", kind): "w1 = from len"})

    def test_slabs(self):
        small = dict(slots=[2, 6])
        for kind, text, calls in (("lay", "many = 0 - 1", [("ask", 2)]), ("lay", "many = 0", [("ask", 2)]), ("take", "set", [("ask", 2)]),
                                  ("back", "word = 9\nclear", [("ask", 2), ("give_back", 0)])):
            self.breaks(("slabs", kind), calls, texts={("slabs", kind): text}, **small)
        # A block that is too small, or too large, for the places of its page.
        self.breaks(("slabs", "lay"), [("ask", 2)], slab_wide=5, **small)
        # The place is refused, so that a page is made for each ask; none is lent.
        one = changed(texts={("slabs", "take"): "no"}, limit=256, **small)
        self.assertEqual([one.ask(2).told, one.held_names(), one.broken], [None, (), ("deeds", "ask")])

    def test_steps_that_come_out_as_no_deed_lets(self):
        self.breaks(("deeds", "take"), [("ask", 9), ("ask", 3), ("ask", 3), ("give_back", 1), ("ask", 30)], steps=(("take", "found", 7),),
                    texts={("bins", "ask"): "bin = 0"})
        self.breaks(("deeds", "top"), [("ask", 90)], steps=(("take", "none", None), ("top", "grown", 59)),
                    texts={("top", "grow"): "ask page\ntop = page - fence"})
        self.breaks(("deeds", "cut"), [("ask", 30)], steps=(("take", "none", None), ("top", "grown", 59), ("cut", "cut", 7)),
                    texts={("blocks", "cut"): CUT.replace("want", "least")})
        self.breaks(("deeds", "cut"), [("ask", 30)], texts={("blocks", "cut"): "size own = want + 1", **SHIFTED})
        self.breaks(("deeds", "grow"), [("ask", 20), ("change", 0, 40)], steps=(("grow", "grown", 7),), texts={("blocks", "grow"): "size own = least"})


class FaultsTest(unittest.TestCase):
    def faults(self, calls, **named):
        one = allocator(**named)
        for kind, *arguments in calls:
            self.assertIsNotNone(getattr(one, kind)(*arguments).told, one.broken)
        return one.faults()

    def test_heads(self):
        three = [("ask", 9), ("ask", 9), ("ask", 9), ("give_back", 1)]
        untold = {("blocks", "free"): FREE.replace("\nahead free p", "")}
        self.assertEqual(self.faults(three, texts=untold), (("heads", 24),))
        # The free block behind is not joined: it is free behind a free one.
        apart = {("blocks", "free"): "s = own\na = size own\nfree s\nfoot s = a\np = s + a\nahead free p\n" + FREE.split("ahead free p\n")[1]}
        self.assertEqual(self.faults([("ask", 9), ("give_back", 0)], texts=apart), (("heads", 12),))
        # The fence is not told.
        self.assertEqual(self.faults([("ask", 59)], texts={("blocks", "take"): TAKE.replace("\nahead used p", "")}), (("heads", 60),))
        # A size that is none of blocks; the walk ends ahead of the fence.
        odd = {**SHIFTED, ("blocks", "cut"): CUT.replace("head s = b free used", "head s = b + 1 free used")}
        self.assertEqual(self.faults([("ask", 9)], texts=odd)[:1], (("heads", 12),))
        short = {**SHIFTED, ("blocks", "cut"): CUT.replace("head s = b free used", "head s = b - 1 free used")}
        self.assertEqual(self.faults([("ask", 9)], texts=short)[:2], (("heads", 12), ("heads", 59)))

    def test_feet_and_rings(self):
        calls = [("ask", 9), ("ask", 9), ("ask", 9), ("give_back", 1)]
        self.assertEqual(self.faults(calls, texts={("blocks", "free"): FREE.replace("foot s = a\n", "")}), (("foot", 12),))
        self.assertEqual(self.faults(calls, texts={("blocks", "free"): FREE.replace("\nprev q = s", "")}), (("ring",),))
        self.assertEqual(self.faults(calls, texts={("blocks", "free"): FREE.replace("\nnext bin = s", "")}), (("ring",),))
        hung = {("blocks", "take"): TAKE.replace("next r = q\nprev q = r\n", "", 1)}
        self.assertEqual(self.faults([("ask", 59)], texts=hung), (("ring",),))

    def test_maps(self):
        self.assertEqual(self.faults([("ask", 9)], texts={("maps", "mark"): ""}), (("map",),))
        self.assertEqual(self.faults([("ask", 9), ("ask", 47)], texts={("maps", "clear"): ""}), (("map",),))
        good = Maker().parts()[4].codes
        self.assertEqual(self.faults([("ask", 9)], texts={("maps", "mark"): good[1].text.replace("roof = p", "q = p")}), (("map",),))
        # A fault of the map stays, though the map is right again.
        one = changed(texts={("maps", "mark"): "if bin is 6\nquit\nend\n" + good[1].text})
        one.ask(9)
        self.assertEqual([one.faults(), one.ask(47).told, one.bin_rows()[6], one.faults()], [(("map",),), "ok", (), (("map",),)])

    def test_slabs_data_and_meetings(self):
        small = dict(slots=[2, 6])
        low = {("slabs", "take"): PLACE.replace("at = base + a", "at = base + a - 1")}
        self.assertEqual(self.faults([("ask", 2)], texts=low, **small)[0], ("slab", 0))
        same = {("slabs", "take"): PLACE.replace("at = base + a", "at = base")}
        # Both have the first place; the words of the first one are gone, and nobody has the second place.
        self.assertEqual(self.faults([("ask", 2), ("ask", 2)], texts=same, **small), (("data", 0), ("meet", 0, 1), ("lost", 4)))
        kept = {("deeds", "change"): deed_texts(False)["change"].replace("move p own.room\n", "")}
        self.assertEqual(self.faults([("ask", 9), ("ask", 9), ("change", 0, 20)], texts=kept), (("data", 0),))
        less = {("deeds", "ask"): "take p 3\non none\ntop p 3\nend\ncut p 3\nhand p"}
        self.assertEqual(self.faults([("ask", 9), ("ask", 7)], texts=less), (("data", 0),))

    def test_lost(self):
        small = dict(slots=[2, 6])
        none = {("deeds", "back"): "hand none"}
        self.assertEqual(self.faults([("ask", 9), ("ask", 9), ("give_back", 0)], texts=none), (("lost", 0),))
        self.assertEqual(self.faults([("ask", 2), ("ask", 2), ("ask", 9), ("give_back", 1), ("give_back", 2), ("give_back", 0)], texts=none, **small),
                         (("lost", 2), ("lost", 4), ("lost", 32)))
        refusing = {("slabs", "back"): "no"}
        self.assertEqual(self.faults([("ask", 2), ("ask", 2), ("give_back", 1)], texts=refusing, **small), (("lost", 4),))

    def test_words_beyond_the_fence(self):
        long = {("top", "grow"): WIDEN.replace("top = a - fence", "top = a + page - fence")}
        one = changed(texts=long)
        # No free block ends at the fence.
        self.assertEqual([one.ask(9).told, one.size, one.block_rows(), one.faults()[0]], ["no", 64, (), ("heads", 0)])

    def test_a_size_whose_top_bit_is_lost(self):
        lost = {("heads", "make"): "a = size & 63\nword = a + used\na = ahead << 1\nword = word + a"}
        one = changed(texts=lost)
        self.assertEqual([one.ask(9).told, one.faults()], ["ok", ()])
        self.assertEqual(one.ask(60).told, "no")
        self.assertNotEqual(one.faults(), ())

    def test_several_kinds_in_their_order(self):
        texts = {("blocks", "free"): FREE.replace("foot s = a\n", "").replace("\nprev q = s", ""), ("maps", "mark"): "",
                 ("deeds", "change"): "hand none"}
        found = self.faults([("ask", 9), ("ask", 9), ("ask", 9), ("ask", 9), ("give_back", 1), ("change", 2, 30)], texts=texts)
        self.assertEqual(found, (("foot", 12), ("ring",), ("map",), ("data", 2), ("lost", 24)))


class BlocksTest(unittest.TestCase):
    def test_codes_do_in_memory_what_they_do_on_cases(self):
        self.assertEqual(sorted(BLOCKS), ["cut", "free", "grow", "take"])
        one = allocator(4, 8, idle=10 ** 6, limit=256)
        for n in (9, 9, 9, 9):
            one.ask(n)
        one.give_back(1)
        self.assertEqual(one.block_rows(), ((0, 12, True), (12, 12, False), (24, 12, True), (36, 12, True), (48, 12, False)))
        told = one.change(0, 20)
        self.assertEqual((told.steps, one.block_rows()), ((("grow", "grown", 23),), ((0, 24, True), (24, 12, True), (36, 12, True), (48, 12, False))))
        one.give_back(2)
        one.give_back(3)
        self.assertEqual(one.block_rows(), ((0, 24, True), (24, 36, False)))
        self.assertEqual(one.faults(), ())


if __name__ == "__main__":
    unittest.main()
