"""The rules of blocks: which sizes are in use."""

from tagblocks.errors import BadRule, BadSize
from tagblocks.texts import is_from, is_whole

MOST_UNIT = 64
LEAST_LEAST = 4


class BlockRules:
    """The unit of sizes and the least size."""

    def __init__(self, unit, least):
        if not is_from(unit, 1) or unit > MOST_UNIT:
            raise BadRule("unit")
        if not is_from(least, LEAST_LEAST) or least % unit != 0:
            raise BadRule("least")
        self.unit = unit
        self.least = least

    def __eq__(self, other):
        return isinstance(other, BlockRules) and self.unit == other.unit and self.least == other.least

    def is_size(self, value):
        """Whether a value, of any kind, is a size in use."""
        return is_whole(value) and value >= self.least and value % self.unit == 0

    def in_use(self, size):
        """Whether a number is a size in use."""
        if not is_from(size, 1):
            raise BadSize(size)
        return self.is_size(size)

    def next_in_use(self, size):
        """The least size in use from one on."""
        if not is_from(size, 1):
            raise BadSize(size)
        return max(self.least, size + -size % self.unit)
