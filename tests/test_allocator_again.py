"""Points [66] to [72]: allocators held against a second way to play programs, right ones and ones with slips."""

import random
import unittest

from allocatoragain import AllocatorAgain
from programmakers import right_makers
from tagblocks.allocator import Allocator
from tagblocks.errors import BlockError
from test_together import Slips


class AgainTest(unittest.TestCase):
    def same(self, one, again, texts):
        """Whether both stand alike."""
        self.assertEqual((one.size, one.calls, one.broken), (again.size, again.calls, again.broken), texts)
        self.assertEqual(one.block_rows(), tuple(again.walk()[0]), texts)
        self.assertEqual(one.bin_rows(), tuple(tuple(row) for row in again.rows), texts)
        self.assertEqual(one.held_names(), tuple(sorted(again.held)), texts)
        for name in one.held_names():
            self.assertEqual(one.read(name), again.read(name), texts)
            piece = again.held[name][0]
            self.assertEqual(one.address_of(name), None if piece is None else again.first(piece), texts)
        self.assertEqual(one.faults(), again.faults(), texts)

    def run_calls(self, chance, program, many, texts):
        one, again = Allocator(program), AllocatorAgain(program)
        for _ in range(many):
            n, way = chance.randint(1, chance.choice([3, 10, 30, 70, 200])), chance.random()
            names = one.held_names()
            if way < .5 or not names:
                told, owed = one.ask(n), again.call("ask", n=n)
            elif way < .78:
                name = chance.choice(names)
                told, owed = one.give_back(name), again.call("back", name)
            else:
                name = chance.choice(names)
                told, owed = one.change(name, n), again.call("change", name, n)
            self.assertEqual((told.told, told.steps), owed, texts)
            self.same(one, again, texts)
            if one.broken is not None:
                return True
        return bool(one.faults())

    def test_right_programs(self):
        for at, maker in enumerate(right_makers()):
            self.assertFalse(self.run_calls(random.Random(at), maker.program(), 60, at))

    def test_programs_with_slips(self):
        slips = Slips(random.Random(66))
        makers, many, wrong = right_makers(), 0, 0
        while many < 400:
            maker = makers[slips.random.randrange(len(makers))]
            maker.texts = {}
            changed = {}
            for _ in range(slips.random.choice([1, 1, 2, 3])):
                changed.update(slips.texts(maker))
            maker.texts = changed
            try:
                program = maker.program()
            except BlockError:
                continue
            many += 1
            wrong += self.run_calls(slips.random, program, 25, changed)
        self.assertGreater(wrong, 60)


if __name__ == "__main__":
    unittest.main()
