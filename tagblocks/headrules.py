"""The rules of heads: which words are sizes in use."""

from tagblocks.errors import BadNumber, BadRule
from tagblocks.texts import is_from, is_whole

MOST_UNIT = 4096
MOST_OVER = 4096
LEAST_WIDE = 8
MOST_WIDE = 64


def is_between(value, least, most):
    """Whether a value is an integer from least to most."""
    return is_whole(value) and least <= value <= most


def is_unit(value):
    """Whether a value is a power of two that units can be."""
    return is_between(value, 1, MOST_UNIT) and value & (value - 1) == 0


def is_over(value):
    """Whether a value can be what blocks have over the lengths they serve."""
    return is_between(value, 0, MOST_OVER)


class HeadRules:
    """The unit and the least size, what a size has over a length, the bits of a word and of the field of a head."""

    def __init__(self, unit, least, over, wide, field):
        self.unit = unit
        self.least = least
        self.over = over
        self.wide = wide
        self.field = field
        wrong = self._first_wrong()
        if wrong is not None:
            raise BadRule(wrong)

    def _first_wrong(self):
        """The first of the rules that is none, or None."""
        if not is_unit(self.unit):
            return "unit"
        wide_is_right = is_between(self.wide, LEAST_WIDE, MOST_WIDE)
        if not is_from(self.least, 1) or self.least % self.unit != 0:
            return "least"
        if wide_is_right and self.least >= 1 << self.wide:
            return "least"
        if not is_over(self.over):
            return "over"
        if not wide_is_right:
            return "wide"
        if not is_between(self.field, 2, self.wide):
            return "field"
        return None

    def __eq__(self, other):
        return (isinstance(other, HeadRules) and self.unit == other.unit and self.least == other.least
                and self.over == other.over and self.wide == other.wide and self.field == other.field)

    def is_word(self, value):
        """Whether a value is a word."""
        return is_from(value, 0) and value < 1 << self.wide

    def in_use(self, size):
        """Whether a number is a size in use."""
        if not is_from(size, 0):
            raise BadNumber(size)
        return self.least <= size < 1 << self.wide and size % self.unit == 0

    def last_size(self):
        """The greatest size in use."""
        return (1 << self.wide) - self.unit

    def next_in_use(self, size):
        """The least size in use from one on, or None."""
        if not is_from(size, 0):
            raise BadNumber(size)
        found = max(self.least, size + -size % self.unit)
        return found if found <= self.last_size() else None
