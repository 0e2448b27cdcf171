"""Point [65]: which parts go together in a program."""

import unittest

from asking import error_of
from programmakers import Maker, right_makers
from tagblocks.program import Program

NAMES = ("heads", "rounding", "blocks", "bins", "maps", "move", "slabs", "deeds", "tops")


class ProgramTest(unittest.TestCase):
    def setUp(self):
        self.maker = Maker(4, 8, slots=[2, 6])
        self.parts = self.maker.parts()

    def error(self, **changed):
        """The error that is raised with some parts changed."""
        return error_of(Program, *[changed.get(name, part) for name, part in zip(NAMES, self.parts)])

    def part(self, name, *arguments, **named):
        """A part of a program of other rules."""
        return Maker(*arguments, **named).parts()[NAMES.index(name)]

    def test_right_programs(self):
        for maker in right_makers():
            parts = maker.parts()
            program = Program(*parts)
            for name, part in zip(NAMES, parts):
                self.assertEqual(getattr(program, name), tuple(part) if isinstance(part, list) else part)
        blocks = self.parts[2]
        program = Program(*self.parts)
        blocks.append(1)
        self.assertEqual(len(program.blocks), 4)
        self.assertIsNone(self.error(blocks=tuple(blocks[:4]), deeds=tuple(self.parts[7])))

    def test_kinds(self):
        heads, _, blocks, _, _, _, _, deeds, tops = self.parts
        for other in (blocks[::-1], blocks[:3], blocks + blocks[:1], []):
            self.assertEqual(self.error(blocks=other, deeds=[], tops=[]), ("OtherKinds", "blocks"))
        for other in (deeds[::-1], deeds[:2], deeds + deeds[:1], []):
            self.assertEqual(self.error(deeds=other, tops=[]), ("OtherKinds", "deeds"))
        for other in (tops[::-1], tops[:1], [tops[0], tops[0]], []):
            self.assertEqual(self.error(tops=other, heads=Maker(8, 8).parts()[0]), ("OtherKinds", "top"))

    def test_rules_that_do_not_go_together(self):
        four = dict(slots=[2, 6])
        self.assertEqual(self.error(heads=self.part("heads", 4, 12), blocks=self.parts[2][:1] + self.part("blocks", 8, 8)[1:]),
                         ("OtherRules", "heads"))
        self.assertEqual(self.error(heads=self.part("heads", 8, 8)), ("OtherRules", "heads"))
        self.assertEqual(self.error(rounding=self.part("rounding", 4, 12)), ("OtherRules", "heads"))
        self.assertEqual(self.error(rounding=self.part("rounding", 4, 8, wide=31)), ("OtherRules", "heads"))
        self.assertEqual(self.error(heads=self.part("heads", 4, 8, wide=31)), ("OtherRules", "heads"))
        for at in range(1, 4):
            blocks = list(self.parts[2])
            blocks[at] = self.part("blocks", 4, 12)[at]
            self.assertEqual(self.error(blocks=blocks, bins=self.part("bins", 4, 12)), ("OtherRules", "blocks"))
        self.assertEqual(self.error(bins=self.part("bins", 4, 12), move=None), ("OtherRules", "bins"))
        self.assertEqual(self.error(maps=self.part("maps", 4, 8, bins=(11, 4))), ("OtherRules", "bins"))
        self.assertEqual(self.error(maps=self.part("maps", 4, 8, most=4000)), ("OtherRules", "bins"))
        self.assertIsNone(self.error(bins=self.part("bins", 4, 8, most=4000), maps=self.part("maps", 4, 8, most=4000)))
        self.assertIsNone(self.error(move=self.part("move", kind="apart")))
        self.assertEqual(self.error(slabs=[], deeds=self.part("deeds", 4, 12, **four)), ("OtherRules", "slabs"))
        slabs = self.parts[6]
        for other in (slabs[:1], slabs[::-1], slabs + slabs[1:], self.part("slabs", slots=[2, 5])):
            self.assertEqual(self.error(slabs=other), ("OtherRules", "slabs"))
        self.assertIsNone(self.error(slabs=self.part("slabs", slab_wide=7, **four)))
        for page, error in ((7, None), (6, ("OtherRules", "slabs")), (1, ("OtherRules", "slabs"))):
            self.assertEqual(self.error(deeds=self.part("deeds", page=page, **four)), error)
        for at in (1, 2):
            deeds = list(self.parts[7])
            deeds[at] = self.part("deeds", page=63, **four)[at]
            self.assertEqual(self.error(deeds=deeds, tops=self.part("tops", 8, 8)), ("OtherRules", "deeds"))
        self.assertEqual(self.error(deeds=self.part("deeds", 4, 12, **four)), ("OtherRules", "deeds"))
        self.assertEqual(self.error(deeds=self.part("deeds", 8, 8, **four)), ("OtherRules", "deeds"))
        self.assertEqual(self.error(tops=self.part("tops", 8, 8)), ("OtherRules", "top"))
        self.assertEqual(self.error(tops=self.part("tops", 4, 12)), ("OtherRules", "top"))
        self.assertEqual(self.error(tops=self.part("tops", 4, 8, fence=0)), ("OtherRules", "top"))
        self.assertIsNone(self.error(tops=self.part("tops", 4, 8, fence=64)))
        self.assertEqual(self.error(tops=self.parts[8][:1] + self.part("tops", 4, 8, keep=1)[1:]), ("OtherRules", "top"))

    def test_moves(self):
        from tagblocks.movecodes import MoveCode
        from tagblocks.moverules import MoveRules
        for code, error in ((MoveCode("any", MoveRules(), ""), None), (MoveCode("apart", MoveRules(1, 3), ""), None),
                            (MoveCode("any", MoveRules(2), ""), ("OtherRules", "moves")),
                            (MoveCode("down", MoveRules(), ""), ("OtherRules", "moves")),
                            (MoveCode("up", MoveRules(), ""), ("OtherRules", "moves"))):
            self.assertEqual(self.error(move=code, slabs=self.parts[6] if error is None else []), error)


if __name__ == "__main__":
    unittest.main()
