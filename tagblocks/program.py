"""Programs: parts of an allocator whose rules go together."""

from tagblocks.blockcodes import BLOCK_KINDS
from tagblocks.deedlines import DEED_KINDS
from tagblocks.errors import OtherKinds, OtherRules
from tagblocks.toplines import TOP_KINDS

# A block has its head over the words that it serves.
HEAD = 1


class Program:
    """Heads and a rounding, the codes of blocks, bins and maps, a move, slabs, deeds, and the codes of the top."""

    def __init__(self, heads, rounding, blocks, bins, maps, move, slabs, deeds, tops):
        self.heads = heads
        self.rounding = rounding
        self.blocks = tuple(blocks)
        self.bins = bins
        self.maps = maps
        self.move = move
        self.slabs = tuple(slabs)
        self.deeds = tuple(deeds)
        self.tops = tuple(tops)
        self._check_kinds()
        self._check_rules()

    def _check_kinds(self):
        """Raises OtherKinds for the first part whose codes are not one of each kind, in order."""
        if tuple([code.kind for code in self.blocks]) != BLOCK_KINDS:
            raise OtherKinds("blocks")
        if tuple([deed.code.kind for deed in self.deeds]) != DEED_KINDS:
            raise OtherKinds("deeds")
        if tuple([code.kind for code in self.tops]) != TOP_KINDS:
            raise OtherKinds("top")

    def _check_rules(self):
        """Raises OtherRules for the first part that does not go with the others."""
        if not (self._has_sizes(self.heads.rules, HEAD) and self.rounding.rules == self.heads.rules):
            raise OtherRules("heads")
        if [code for code in self.blocks if code.rules != self.blocks[0].rules]:
            raise OtherRules("blocks")
        if not (self._has_sizes(self.bins.rules, HEAD) and self.maps.rules == self.bins.rules):
            raise OtherRules("bins")
        if self.move.rules.unit != 1 or self.move.kind not in ("any", "apart"):
            raise OtherRules("moves")
        if not self._slabs_go():
            raise OtherRules("slabs")
        if not self._deeds_go():
            raise OtherRules("deeds")
        rules = self.tops[0].rules
        if not (self._has_sizes(rules, None) and rules.fence >= 1 and self.tops[1].rules == rules):
            raise OtherRules("top")

    def _has_sizes(self, rules, over):
        """Whether rules have the unit and the least size of the blocks, and what sizes have over lengths, or None."""
        sizes = self.blocks[0].rules
        if rules.unit != sizes.unit or rules.least != sizes.least:
            return False
        return over is None or rules.over == over

    def _slabs_go(self):
        """Whether the slabs are those of the classes of places, and pages are longer than places."""
        rules = self.deeds[0].rules
        found = [(slab.rules.head, slab.rules.each) for slab in self.slabs]
        return found == [(HEAD, slot) for slot in rules.slots] and rules.page > rules.small()

    def _deeds_go(self):
        """Whether the rooms of blocks in deeds are sizes less their heads."""
        sizes = self.blocks[0].rules
        rules = self.deeds[0].rules
        if rules.least != sizes.least - HEAD or rules.unit != sizes.unit:
            return False
        return not [deed for deed in self.deeds if deed.rules != rules]
