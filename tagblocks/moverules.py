"""The rules of moves: which lengths are in use."""

from tagblocks.errors import BadRule
from tagblocks.headrules import is_between
from tagblocks.texts import is_from

MOST_UNIT = 16
MOST_HEAD = 8


class MoveRules:
    """The unit of the sizes of blocks, and how many words of a block are its head."""

    def __init__(self, unit=1, head=0):
        if not is_between(unit, 1, MOST_UNIT):
            raise BadRule("unit")
        if not is_between(head, 0, MOST_HEAD):
            raise BadRule("head")
        self.unit = unit
        self.head = head

    def __eq__(self, other):
        return isinstance(other, MoveRules) and self.unit == other.unit and self.head == other.head

    def in_use(self, length):
        """Whether a value, of any kind, is a length in use."""
        return is_from(length, 0) and (length + self.head) % self.unit == 0
