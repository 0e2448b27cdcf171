"""Promises [31], [32], [33], [35]: plays of move codes, their edges and wrong inputs."""

import random
import unittest

from asking import NO_INTEGERS, error_of
from movemakers import BACK, BOTH, DOWN, ENDS, FOURS_UP, HALF, PAIRS, SINGLES, UP, MoveChance, Replay
from tagblocks.movecodes import MoveCode
from tagblocks.moveplay import many_rounds, play_move
from tagblocks.moverules import MoveRules

PLAIN = MoveRules()


def played(text, many=4, gap=10, kind="any", rules=PLAIN, words=None):
    words = {address: f"x{address}" for address in range(many)} if words is None else words
    return play_move(MoveCode(kind, rules, text), words, 0, many, gap)


class PlayTest(unittest.TestCase):
    def test_right_moves(self):
        for text in (UP, DOWN, BOTH, PAIRS, FOURS_UP, HALF, ENDS, BACK):
            for many in range(10):
                for gap in (-20, 20):
                    play = played(text, many, gap)
                    self.assertEqual(play.ended, "done")
                    self.assertEqual(sorted(set(play.written)), [gap + k for k in range(many)], text)
                    self.assertEqual([play.words_behind()[gap + k] for k in range(many)], [f"x{k}" for k in range(many)])

    def test_lines(self):
        play = played("a = len // 3\nb = 14 - gap - a\nw2 = from b\nto a = w2")
        self.assertEqual((play.ended, play.written, play.words_behind()[11]), ("done", (11,), "x3"))
        play = played("a = 0 - 1 // 2\nb = a + 1\nw1 = from b\nto 3 = w1")
        self.assertEqual((play.ended, play.written), ("done", (13,)))
        play = played("w1 = from 1\nquit\nto 0 = w1")
        self.assertEqual((play.ended, play.written, play.lines()), ("done", (), (1, 2)))

    def test_edges_of_places(self):
        for place, ended in (("0 - 1", "beyond"), ("0", "done"), ("len - 1", "done"), ("len", "beyond")):
            self.assertEqual(played(f"w1 = from {place}").ended, ended)
            self.assertEqual(played(f"w1 = from 0\nto {place} = w1").ended, ended)
        self.assertEqual(played("w1 = from 0", 0).ended, "beyond")
        self.assertEqual(played("", 0).ended, "done")

    def test_words_that_hold_nothing(self):
        play = played("to 0 = w1")
        self.assertEqual((play.ended, play.written, play.lines()), ("beyond", (), (1,)))
        self.assertEqual(played("w1 = from 0\nto 0 = w2").ended, "beyond")
        # A word that is None is held as well.
        play = played("w1 = from 3\nto 0 = w1", words={0: "x"})
        self.assertEqual((play.ended, play.words_behind()), ("done", {0: "x", 10: None}))
        for part in ("a < 0", "a < 1"):
            loop = f"while {part}\nw2 = from a\nto a = w2\na = a + 1\nend"
            self.assertEqual(played("w1 = from 0\n" + loop + "\nto 0 = w1").ended, "beyond")
            self.assertEqual(played("w1 = from 0\n" + loop + "\nw1 = from 0\nto 0 = w1").ended, "done")

    def test_whiles(self):
        loop = "while {}\nw1 = from a\nto a = w1\na = a + 1\nend\nw2 = from 3\nto 3 = w2"
        for part, ended, lines in (("a < 0", "done", (1, 6, 7)), ("a < 1", "done", (1, 2, 3, 4, 6, 7)), ("0 <= a", "beyond", (1,)),
                                   ("not a is len", "done", (1, 2, 3, 4, 6, 7)), ("not a is gap", "beyond", (1, 2)),
                                   ("a is 0", "done", (1, 2, 3, 4, 6, 7)), ("b is 0", "beyond", (1,)), ("b is 1", "done", (1, 6, 7)),
                                   ("not a < len", "done", (1, 6, 7)), ("not len < a", "beyond", (1, 2, 3, 4))):
            play = played(loop.format(part), words={})
            lines_told = tuple(line for line in play.lines() if line in lines) if part == "not a is gap" else play.lines()
            self.assertEqual((play.ended, lines_told), (ended, lines), part)

    def test_a_while_that_never_ends_plays_no_round(self):
        play = played("while not a is 3\nw1 = from a\nto a = w1\na = a + 2\nend")
        self.assertEqual((play.ended, play.written, play.lines()), ("beyond", (), (1,)))
        play = played("while a < 9\nw1 = from a\nto a = w1\na = a + 1\nend")
        self.assertEqual((play.ended, play.written), ("beyond", (10, 11, 12, 13)))

    def test_many_rounds(self):
        for wanted in (True, False):
            for sign in ("<", "<=", "is"):
                for gap in range(-9, 10):
                    for step in range(-4, 5):
                        holds = (lambda worth: {"<": worth < 0, "<=": worth <= 0, "is": worth == 0}[sign] == wanted)
                        rounds = [k for k in range(40) if not holds(gap + k * step)]
                        self.assertEqual(many_rounds(wanted, (sign, "a", "b"), gap, step), rounds[0] if rounds else None)

    def test_sides(self):
        play = played(BOTH)
        self.assertEqual((play.sides(), play.lines()), (((1, False), (8, True)), (1, 8, 9, 10, 11, 12, 13)))
        self.assertEqual(played(BOTH, gap=0).sides(), ((1, False), (8, False)))
        self.assertEqual(played("if len < 9 and 0 < len\nif not a is 0\nend\nend").sides(), ((1, True), (2, False)))
        self.assertEqual(played(SINGLES, 1).lines(), (1, 4, 5, 6, 7))

    def test_overlapping_words(self):
        words = {5: "a", 6: "b", 7: "c", 20: "z"}
        code = MoveCode("any", PLAIN, UP)
        play = play_move(code, words, 5, 3, 1)
        self.assertEqual((play.words_behind(), play.written), ({5: "a", 6: "a", 7: "a", 8: "a", 20: "z"}, (6, 7, 8)))
        self.assertEqual(words, {5: "a", 6: "b", 7: "c", 20: "z"})
        play.words_behind().clear()
        self.assertEqual(len(play.words_behind()), 5)
        self.assertEqual(play_move(code, words, -7, 2, -5).words_behind()[-12], None)

    def test_plays_of_chance(self):
        chance = MoveChance(random.Random(35))
        for _ in range(300):
            code = chance.code(4)
            for many in range(12):
                gap = chance.random.randint(-15, 15)
                if code.rules.in_use(many) and code.has_gap(many, gap):
                    again = Replay(code, many, gap)
                    play = play_move(code, {}, 0, many, gap)
                    self.assertEqual(play.ended, again.ended, (code.text, many, gap))
                    if play.ended == "done":
                        self.assertEqual(play.written, tuple(entry[1] + gap for entry in again.log if entry[0] == "write"))


class WrongInputsTest(unittest.TestCase):
    def test_order(self):
        code = MoveCode("up", MoveRules(4, 1), "")
        for value in NO_INTEGERS:
            self.assertEqual(error_of(play_move, code, {}, value, -1, -1), ("BadNumber", value))
        for value in (-1, 0, 2, 4, *NO_INTEGERS):
            self.assertEqual(error_of(play_move, code, {}, -3, value, -1), ("BadLength", value))
        for value in (-1, *NO_INTEGERS):
            self.assertEqual(error_of(play_move, code, {}, -3, 3, value), ("BadGap", value))
        self.assertEqual(play_move(code, {}, -3, 3, 0).ended, "done")

    def test_gaps_of_kinds(self):
        for kind, good in (("any", [-9, -3, -2, 0, 2, 3, 9]), ("down", [-9, -3, -2, 0]), ("up", [0, 2, 3, 9]), ("apart", [-9, -3, 3, 9])):
            code = MoveCode(kind, PLAIN, "")
            for gap in (-9, -3, -2, 0, 2, 3, 9):
                wanted = None if gap in good else ("BadGap", gap)
                self.assertEqual(error_of(play_move, code, {}, 0, 3, gap), wanted, (kind, gap))
        self.assertEqual(play_move(MoveCode("apart", PLAIN, ""), {}, 0, 0, 0).ended, "done")


if __name__ == "__main__":
    unittest.main()
