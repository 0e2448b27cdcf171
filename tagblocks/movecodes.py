"""The codes of moves: texts that copy the words of a block to its new place."""

from tagblocks.errors import BadKind
from tagblocks.movelines import REGISTERS, line_in_while, line_with_factor, loop_step_in, move_marks, move_part_in
from tagblocks.movelines import move_step_in
from tagblocks.outlines import line_above, read_outline, refuse_least, ways_through
from tagblocks.texts import is_among

MOVE_KINDS = ("any", "down", "up", "apart")
MOST_LINES = 40
MOST_IFS = 5
MOST_SET = 3
MOST = {"divided": 1, "from": 8, "to": 8, "while": 2}


class MoveCode:
    """A code of one of four kinds, made with its rules from its text."""

    def __init__(self, kind, rules, text):
        if not is_among(kind, MOVE_KINDS):
            raise BadKind(kind)
        self.kind = kind
        self.rules = rules
        self.text = text
        self.outline = read_outline(text, kind, move_step_in, move_part_in, MOST_LINES, MOST_IFS, loop_step_in)
        self.findings = None
        most = dict(MOST)
        for name in REGISTERS:
            most[name] = MOST_SET
        lines = [line_above(self.outline, way, move_marks, most) for way in ways_through(self.outline)]
        whiles = [at + 1 for at, step in enumerate(self.outline.steps) if step[0] == "while"]
        lines = lines + [line_in_while(self.outline, line) for line in whiles]
        refuse_least([*lines, line_with_factor(self.outline, rules.unit)])

    def __eq__(self, other):
        return (isinstance(other, MoveCode) and self.kind == other.kind and self.rules == other.rules
                and self.text == other.text)

    def __len__(self):
        return len(self.outline.rows)

    def __getitem__(self, line):
        return self.outline.rows[line - 1]

    def __iter__(self):
        raise TypeError("codes are not iterated over")

    def has_gap(self, length, gap):
        """Whether a gap is one of the kind, for moves of a length."""
        if self.kind == "down":
            return gap <= 0
        if self.kind == "up":
            return gap >= 0
        return self.kind == "any" or abs(gap) >= length
