"""The codes of the end of memory: texts that make memory greater, or give back what is not needed."""

from tagblocks.errors import BadKind
from tagblocks.outlines import line_above, read_outline, refuse_least, ways_through
from tagblocks.texts import is_among
from tagblocks.toplines import MOST, TOP_KINDS, line_with_divisor, top_marks, top_part_in, top_step_in

MOST_LINES = 20
MOST_IFS = 5


class TopCode:
    """A code of one of two kinds for some rules, made from its text."""

    def __init__(self, kind, rules, text):
        if not is_among(kind, TOP_KINDS):
            raise BadKind(kind)
        self.kind = kind
        self.rules = rules
        self.text = text
        self.outline = read_outline(text, kind, top_step_in, top_part_in, MOST_LINES, MOST_IFS)
        above = [line_above(self.outline, way, top_marks, dict(MOST)) for way in ways_through(self.outline)]
        refuse_least([*above, line_with_divisor(self.outline, rules)])
        # What verdicts have found of this code, so that it is looked for once.
        self.findings = None

    def __eq__(self, other):
        return (isinstance(other, TopCode) and self.kind == other.kind and self.rules == other.rules
                and self.text == other.text)

    def __len__(self):
        return len(self.outline.rows)

    def __getitem__(self, line):
        return self.outline.rows[line - 1]

    def __iter__(self):
        raise TypeError("codes are not iterated over")
