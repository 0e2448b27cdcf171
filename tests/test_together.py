"""Points [72] to [74]: the first wrong numbers of the parts of a program, and the good words."""

import random
import re
import unittest

from programmakers import CUT, Maker, right_makers
from tagblocks.allocator import Allocator
from tagblocks.allocatorworld import World
from tagblocks.binverdicts import ask_floor, bin_floor, bin_wrong, map_right, map_wrong
from tagblocks.blockverdicts import next_wrong_block
from tagblocks.deedverdicts import deed_next_piece, deed_next_wrong
from tagblocks.errors import BlockError
from tagblocks.headverdicts import head_wrong, round_break
from tagblocks.moveverdicts import move_wrong
from tagblocks.slabverdicts import slab_wrong
from tagblocks.together import first_wrong, good_words
from tagblocks.topverdicts import top_next_wrong
from topmakers import WIDEN

SMALL = dict(slots=[2, 6])


def least(numbers):
    return min([number for number in numbers if number is not None], default=None)


def owed(program):
    """The first wrong numbers, told by the verdicts of the parts."""
    found = {"rounding": least([round_break(program.rounding, promise, 0) for promise in ("even", "enough")]),
             "blocks": least([next_wrong_block(code, 1) for code in program.blocks]), "moves": move_wrong(program.move, 0)}
    rules = program.bins.rules
    found["bins"] = least([bin_wrong(program.bins, "inside", 0), bin_wrong(program.bins, "safe", 0), rules.most - rules.over + 1])
    wrong = least([map_wrong(program.maps, promise, 0) for promise in ("inside", "true", "least", "kept")])
    found["maps"] = None if wrong is None else least([bin_floor(program.bins, wrong), ask_floor(program.bins, max(0, wrong - 1))])
    found["slabs"] = least([slab_wrong(slab, 0) for slab in program.slabs] + [2 ** slab.rules.wide for slab in program.slabs])
    asked = ("inside", "whole", "owed", "back", "told")
    found["deeds"] = least([deed_next_wrong(program.deeds[at], promise, 1) for at in (0, 2) for promise in asked]
                           + [deed_next_piece(program.deeds[1], promise, sort, 1) for promise in asked for sort in ("place", "block")])
    found["top"] = least([top_next_wrong(program.tops[0], promise, 0) for promise in ("inside", "true", "enough")]
                         + [top_next_wrong(program.tops[1], promise, 0) for promise in ("inside", "true", "rest")])
    return found


class FirstWrongTest(unittest.TestCase):
    def numbers(self, *arguments, **named):
        """The first wrong numbers of a program, compared with the verdicts of its parts."""
        program = Maker(*arguments, **named).program()
        told = first_wrong(program)
        names = [name for name, _ in told]
        self.assertEqual(names, [name for name in ("heads", "rounding", "blocks", "bins", "maps", "moves", "slabs", "deeds", "top")
                                 if name in names])
        for name, number in owed(program).items():
            self.assertEqual(dict(told).get(name), number, name)
        if dict(told)["heads"]:
            self.assertEqual(dict(told)["heads"], least([head_wrong(program.heads, 0), 2 ** program.heads.rules.wide]))
        self.assertEqual(good_words(program), min(number for _, number in told))
        return dict(told)

    def test_right_programs(self):
        for maker in right_makers():
            found = dict(first_wrong(maker.program()))
            self.assertEqual(set(found) - {"slabs"}, {"heads", "bins"})
            self.assertEqual("slabs" in found, bool(maker.deed_rules.slots))
        self.assertEqual(self.numbers(), {"heads": 2 ** 32, "bins": 999996})
        self.assertEqual(self.numbers(4, 8, most=4000, wide=12, bins=(13, 4)), {"heads": 4096, "bins": 4000})
        # Lay is beyond from the size on whose words have too many bits.
        self.assertEqual(self.numbers(**SMALL), {"heads": 2 ** 32, "bins": 999996, "slabs": 4097})

    def test_bounds(self):
        self.assertEqual(self.numbers(4, 8, wide=8, most=200)["heads"], 256)
        self.assertEqual(self.numbers(4, 8, most=200, bins=(9, 3))["bins"], 200)
        texts = {("slabs", "lay"): "many = 1\nmaps = 1"}
        # Two places fit at a size of 1 + 1 + 2 * 2, or 1 + 1 + 2 * 6.
        self.assertEqual(self.numbers(texts=texts, **SMALL)["slabs"], 6)
        one = self.numbers(slots=[300], page=400, slab_wide=9, texts=texts)
        self.assertEqual(one["slabs"], 512)

    def test_heads(self):
        for kind, text, number in (("size", "size = word &~ 3\nif size < 100\nquit\nend\nsize = 0", 100), ("used", "used = word & 2", 0),
                                   ("meet", "word = word | 3", 8), ("meet", "word = word", 0), ("part", "word = word &~ 3", 0),
                                   ("part", "word = word", 0), ("make", "word = size + used", 0), ("ahead", "ahead = 1", 0),
                                   ("size", "size = word &~ 3\nif size is 0\nsize = 4\nend", 0), ("use", "if 50 < word\nword = 0\nend\nword = word | 1", 48),
                                   ("free", "word = word", 8), ("make", "word = size + used\na = ahead << 1\nword = word + a &~ 2147483648", 2 ** 31)):
            self.assertEqual(self.numbers(texts={("heads", kind): text})["heads"], number, (kind, text))

    def test_parts_that_are_wrong_from_a_number_on(self):
        cases = [("rounding", {("rounding", "round"): "a = n + 4\nsize = a &~ 3\nif size < 8\nsize = 8\nend\nif 200 < n\nsize = 8\nend"}, 201),
                 ("rounding", {("rounding", "round"): "size = n + 1"}, 0),
                 # Too great a size breaks tight alone, which does not count; so does a no.
                 ("rounding", {("rounding", "round"): "a = n + 64\nif a < n\nno\nend\nsize = a &~ 3"}, None),
                 ("rounding", {("rounding", "round"): "no"}, None),
                 ("blocks", {("blocks", "cut"): CUT.replace("b = a - want\n", "b = a - want\nif 100 <= a\nquit\nend\n", 1)}, 100),
                 ("bins", {("bins", "ask"): "a = len + 4\na = bits a\nbin = a + 1\nif 300 < len\nbin = 0\nend"}, 301),
                 ("bins", {("bins", "hang"): "bin = bits size\nif last < bin\nbin = last\nend\nif 500 < size\nbin = bin + 9\nend"}, 500),
                 ("maps", {("maps", "mark"): "if bin is 7\nquit\nend\n" + Maker().parts()[4].codes[1].text}, 12),
                 ("maps", {("maps", "find"): "none"}, 1), ("moves", {("moves", "any"): "if gap is 0\nquit\nend\nif 7 < len\nquit\nend\n" +
                                                                     Maker().parts()[5].text}, 8),
                 ("deeds", {("deeds", "ask"): "take p n\non none\ntop p n\non shut\nquit no\nend\nend\nif n < 50\ncut p n\nelse\ncut p n - 9\nend\nhand p"}, 50),
                 ("deeds", {("deeds", "back"): "if own.room < 40\nhang own\nend\nhand none"}, 43),
                 ("deeds", {("deeds", "ask"): "take p n\non none\ntop p n\non shut\nquit no\nend\nend\nhand p"}, None),
                 ("top", {("top", "grow"): WIDEN.replace("top = top + a", "if need < 300\ntop = top + a\nend")}, 300),
                 ("top", {("top", "trim"): "if top < 300\nquit\nend\na = top down page\ngive a\ntop = top - a"}, 324),
                 ("top", {("top", "trim"): ""}, None)]
        for name, texts, number in cases:
            with self.subTest(name=name, texts=texts):
                self.assertEqual(self.numbers(texts=texts).get(name), number)

    def test_maps_and_the_numbers_that_lead_to_their_bins(self):
        texts = {("maps", "mark"): "if bin is 7\nquit\nend\n" + Maker().parts()[4].codes[1].text}
        program = Maker(texts=texts).program()
        self.assertEqual([map_wrong(program.maps, "kept", 0), bin_floor(program.bins, 7), ask_floor(program.bins, 6)], [7, 64, 12])
        self.assertEqual(dict(first_wrong(program))["maps"], 12)
        never = {**texts, ("bins", "hang"): "bin = 0", ("bins", "ask"): "bin = 0"}
        self.assertNotIn("maps", dict(first_wrong(Maker(texts=never).program())))
        self.assertEqual(map_right(program.maps, "kept", 7), 8)

    def test_several_at_once(self):
        texts = {("blocks", "cut"): CUT.replace("b = a - want\n", "b = a - want\nif 100 <= a\nquit\nend\n", 1),
                 ("top", "grow"): WIDEN.replace("top = top + a", "if need < 90\ntop = top + a\nend"),
                 ("deeds", "back"): "if own.room < 40\nhang own\nend\nhand none"}
        found = self.numbers(texts=texts)
        self.assertEqual([found[name] for name in ("blocks", "deeds", "top")], [100, 43, 92])


class Slips:
    """Slips of chance in the texts of a program."""

    def __init__(self, chance):
        self.random = chance

    def changed(self, text):
        lines = text.split("\n")
        for _ in range(self.random.choice([1, 1, 1, 2])):
            at, way = self.random.randrange(len(lines)), self.random.randrange(6)
            fixed = lines[at].startswith(("if", "end", "else", "on", "while"))
            numbers = re.findall(r"\b\d+\b", lines[at])
            if way == 0 and not fixed:
                lines.pop(at)
            elif way == 1 and numbers:
                one = self.random.choice(numbers)
                lines[at] = re.sub(r"\b%s\b" % one, str(max(0, int(one) + self.random.choice([-1, 1, 7, -8]))), lines[at], count=1)
            elif way == 2 and lines[at].startswith("if "):
                lines[at] = lines[at].replace(" < ", " <= ") if " < " in lines[at] else lines[at].replace("if ", "if not ", 1)
            elif way == 3:
                lines[at] = lines[at].replace(" + ", " | ", 1).replace(" - ", " + ", 1).replace(" | ", " - ", 1)
            elif not fixed:
                names = {"size", "n", "own.room", "want", "len", "need", "many", "top"} & set(re.findall(r"[a-z.]+", text))
                if names:
                    test = f"if {self.random.choice(sorted(names))} < {self.random.choice([20, 50, 100, 200, 400])}"
                    lines[at:at + 1] = [test, lines[at], "end"]
            if not lines:
                return text
        return "\n".join(lines)

    def texts(self, maker):
        """Another text for some part."""
        parts = maker.parts()
        found = {("heads", code.kind): code.text for code in parts[0].codes}
        found["rounding", "round"] = parts[1].code.text
        found.update({("blocks", code.kind): code.text for code in parts[2]})
        found.update({("bins", code.kind): code.text for code in (parts[3].hangs, parts[3].asks)})
        found.update({("maps", code.kind): code.text for code in parts[4].codes})
        found["moves", parts[5].kind] = parts[5].text
        if parts[6]:
            found.update({("slabs", code.kind): code.text for code in (parts[6][0].lay, parts[6][0].take, parts[6][0].back)})
        found.update({("deeds", deed.code.kind): deed.code.text for deed in parts[7]})
        found.update({("top", code.kind): code.text for code in parts[8]})
        group = self.random.choice(sorted({key[0] for key in found}))
        key = self.random.choice([key for key in sorted(found) if key[0] == group])
        return {key: self.changed(found[key])}


class GoodWordsTest(unittest.TestCase):
    """[74]: as long as there are fewer words than the good words, and no length or size has come up to them, all is well."""

    def setUp(self):
        self.greatest = 0
        size_of = World.size_of

        def noted(world, n):
            size = size_of(world, n)
            self.greatest = max(self.greatest, n if size is None else size)
            return size

        World.size_of = noted
        self.addCleanup(setattr, World, "size_of", size_of)

    def run_calls(self, chance, program, many):
        good = good_words(program)
        one, held, self.greatest = Allocator(program), {}, 0
        for _ in range(many):
            before = {name: one.read(name) for name in held}
            n = chance.randint(1, chance.choice([5, 10, 30, 60, 150, 600]))
            if n >= good:
                continue
            way, name = chance.random(), chance.choice(sorted(held)) if held else None
            if way < .5 or name is None:
                name, told = None, one.ask(n)
            elif way < .8:
                told = one.give_back(name)
            else:
                told = one.change(name, n)
            if one.size >= good or self.greatest >= good:
                return
            self.assertIsNone(one.broken, one.broken)
            self.assertEqual(one.faults(), ())
            if told.told == "no":
                self.assertEqual({each: one.read(each) for each in held}, before)
            elif name is not None and way < .8:
                held.pop(name)
            else:
                held[told.number if name is None else name] = n
                self.assertEqual(one.read(told.number if name is None else name),
                                 tuple((told.number if name is None else name, k) for k in range(n)))

    def test_programs_with_a_slip(self):
        slips = Slips(random.Random(74))
        makers = right_makers()
        many = 0
        while many < 220:
            maker = makers[slips.random.randrange(len(makers))]
            maker.texts = {}
            maker.texts = slips.texts(maker)
            try:
                program = maker.program()
            except BlockError:
                continue
            many += 1
            with self.subTest(texts=maker.texts):
                self.run_calls(slips.random, program, 80)


if __name__ == "__main__":
    unittest.main()
