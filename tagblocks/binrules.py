"""The rules of bins: which sizes and lengths there are, and how many words the map has."""

from tagblocks.errors import BadNumber, BadRule
from tagblocks.headrules import is_between, is_over, is_unit
from tagblocks.texts import is_from

LEAST_WIDE = 2
MOST_WIDE = 16
MOST_BINS = 256
MOST_TOP = 10 ** 30 - 1


class BinRules:
    """The unit, the least and greatest sizes, what they have over lengths, how many bins, and the bits of a word."""

    def __init__(self, unit, least, over, most, bins, wide):
        self.unit = unit
        self.least = least
        self.over = over
        self.most = most
        self.bins = bins
        self.wide = wide
        wrong = self._first_wrong()
        if wrong is not None:
            raise BadRule(wrong)
        self.words = (bins + wide - 1) // wide

    def _first_wrong(self):
        """The first of the rules that is none, or None."""
        if not is_unit(self.unit):
            return "unit"
        if not is_over(self.over):
            return "over"
        if not is_from(self.least, self.over + 1) or self.least % self.unit != 0:
            return "least"
        if not is_between(self.most, self.least, MOST_TOP) or self.most % self.unit != 0:
            return "most"
        if not is_between(self.wide, LEAST_WIDE, MOST_WIDE):
            return "wide"
        if not is_between(self.bins, 1, min(MOST_BINS, self.wide * self.wide)):
            return "bins"
        return None

    def __eq__(self, other):
        return (isinstance(other, BinRules) and self.unit == other.unit and self.least == other.least
                and self.over == other.over and self.most == other.most and self.bins == other.bins
                and self.wide == other.wide)

    def in_use(self, size):
        """Whether a number is a size in use."""
        if not is_from(size, 0):
            raise BadNumber(size)
        return self.least <= size <= self.most and size % self.unit == 0

    def need(self, n):
        """The least size in use that is enough for a length."""
        if not is_between(n, 1, self.most - self.over):
            raise BadNumber(n)
        wanted = n + self.over
        return max(self.least, wanted + -wanted % self.unit)
