"""Runs the examples of the interface as they stand in the document."""

import doctest
import os
import unittest

FOLDER = os.path.join(os.path.dirname(os.path.abspath(__file__)), "examples")


class ExamplesTest(unittest.TestCase):
    def run_file(self, name):
        failed, tried = doctest.testfile(os.path.join(FOLDER, name), module_relative=False)
        self.assertGreater(tried, 0)
        self.assertEqual(failed, 0)

    def test_heads(self):
        self.run_file("heads.txt")

    def test_bins(self):
        self.run_file("bins.txt")

    def test_moves(self):
        self.run_file("moves.txt")

    def test_slabs(self):
        self.run_file("slabs.txt")

    def test_deeds(self):
        self.run_file("deeds.txt")

    def test_tops(self):
        self.run_file("tops.txt")

    def test_allocators(self):
        self.run_file("allocators.txt")

    def test_blocks(self):
        self.run_file("blocks.txt")


if __name__ == "__main__":
    unittest.main()
