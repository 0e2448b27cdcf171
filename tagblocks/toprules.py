"""The rules of the end of memory: how it grows and is given back."""

from tagblocks.errors import BadRule
from tagblocks.texts import is_from

# Numbers of rules have up to 30 figures.
FIRST_TOO_GREAT = 10 ** 30


def is_rule(value, least):
    """Whether a value is an integer from the least one on that rules can have."""
    return is_from(value, least) and value < FIRST_TOO_GREAT


class TopRules:
    """Numbers of words: unit, the least block, a page, the fence; and limit, waste, keep and idle."""

    def __init__(self, unit, least, page, fence, limit=None, waste=0, keep=0, idle=None):
        self.unit = unit
        self.least = least
        self.page = page
        self.fence = fence
        self.limit = limit
        self.waste = waste
        self.keep = keep
        self.idle = idle
        wrong = self._first_wrong()
        if wrong is not None:
            raise BadRule(wrong)

    def _first_wrong(self):
        """The first of the rules that is none, or None."""
        if not is_rule(self.unit, 1):
            return "unit"
        if not is_rule(self.least, self.unit) or self.least % self.unit != 0:
            return "least"
        if not is_rule(self.page, self.unit) or self.page % self.unit != 0:
            return "page"
        if not is_rule(self.fence, 0) or self.fence > self.page or self.fence % self.unit != 0:
            return "fence"
        if self.limit is not None and not is_rule(self.limit, self.page):
            return "limit"
        if not is_rule(self.waste, 0):
            return "waste"
        if not is_rule(self.keep, 0):
            return "keep"
        if self.idle is not None and not is_rule(self.idle, self.page + max(self.keep, self.least)):
            return "idle"
        return None

    def __eq__(self, other):
        return (isinstance(other, TopRules) and self.unit == other.unit and self.least == other.least
                and self.page == other.page and self.fence == other.fence and self.limit == other.limit
                and self.waste == other.waste and self.keep == other.keep and self.idle == other.idle)
