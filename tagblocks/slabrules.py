"""The rules of slabs: which sizes pages can have, and how many places fit into them."""

from tagblocks.errors import BadCount, BadRule, BadSize
from tagblocks.headrules import is_between
from tagblocks.texts import is_from, is_whole

LEAST_WIDE = 2
MOST_WIDE = 64
MOST_HEAD = 4096
MOST_EACH = 4096


class SlabRules:
    """The bits of a word, the words of the head of a page, and the words of each place."""

    def __init__(self, wide, head, each):
        if not is_between(wide, LEAST_WIDE, MOST_WIDE):
            raise BadRule("wide")
        if not is_between(head, 0, MOST_HEAD):
            raise BadRule("head")
        if not is_between(each, 1, MOST_EACH) or head + 1 + each >= 1 << wide:
            raise BadRule("each")
        self.wide = wide
        self.head = head
        self.each = each
        self.top = (1 << wide) - 1

    def __eq__(self, other):
        return (isinstance(other, SlabRules) and self.wide == other.wide and self.head == other.head
                and self.each == other.each)

    def is_size(self, size):
        """Whether a value, of any kind, is a size in use."""
        return is_between(size, self.head + 1 + self.each, self.top)

    def in_use(self, size):
        """Whether a number is a size in use."""
        if not is_whole(size):
            raise BadSize(size)
        return self.is_size(size)

    def places_for(self, size):
        """The greatest number of places that fits into a number of words."""
        return (size - self.head) * self.wide // (self.each * self.wide + 1)

    def most_places(self, size):
        """The greatest number of places that fits into a size in use."""
        if not self.is_size(size):
            raise BadSize(size)
        return self.places_for(size)

    def least_maps(self, many):
        """The least number of map words for a number of places."""
        return (many + self.wide - 1) // self.wide

    def least_size(self, many):
        """The least size in use into which so many places fit, or None."""
        if not is_from(many, 1):
            raise BadCount(many)
        size = self.head + self.least_maps(many) + self.each * many
        return size if size <= self.top else None
