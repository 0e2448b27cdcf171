"""The codes of slabs: texts that lay out a page, lend a place of it or take one back."""

from tagblocks.errors import BadKind
from tagblocks.outlines import line_above, read_outline, refuse_least, ways_through
from tagblocks.slablines import MOST, SLAB_KINDS, line_too_late, slab_marks, slab_part_in, slab_step_in
from tagblocks.texts import is_among

MOST_LINES = 25
MOST_IFS = 5


class SlabCode:
    """A code of one of three kinds, made from its text."""

    def __init__(self, kind, text):
        if not is_among(kind, SLAB_KINDS):
            raise BadKind(kind)
        self.kind = kind
        self.text = text
        self.outline = read_outline(text, kind, slab_step_in, slab_part_in, MOST_LINES, MOST_IFS)
        self.findings = []
        ways = ways_through(self.outline)
        lines = [line_above(self.outline, way, slab_marks, dict(MOST)) for way in ways]
        refuse_least(lines + [line_too_late(self.outline, way) for way in ways])

    def __eq__(self, other):
        return isinstance(other, SlabCode) and self.kind == other.kind and self.text == other.text

    def __len__(self):
        return len(self.outline.rows)

    def __getitem__(self, line):
        return self.outline.rows[line - 1]

    def __iter__(self):
        raise TypeError("codes are not iterated over")
