"""Sizes together: how many words an allocator may have before a part of its program is wrong."""

from tagblocks.binverdicts import ask_floor, bin_floor, bin_wrong, map_wrong
from tagblocks.blockverdicts import next_wrong_block
from tagblocks.deedverdicts import SORTS, deed_next_piece, deed_next_wrong
from tagblocks.headplay import play_head
from tagblocks.headverdicts import head_wrong, round_break
from tagblocks.mapfindings import MAP_PROMISES
from tagblocks.moveverdicts import move_wrong
from tagblocks.slabverdicts import slab_wrong
from tagblocks.topverdicts import top_next_wrong

# The promises that count for a part of whose promises not all do.
ROUND_ASKED = ("even", "enough")
BIN_ASKED = ("inside", "safe")
DEED_ASKED = ("inside", "whole", "owed", "back", "told")
TOP_ASKED = (("inside", "true", "enough"), ("inside", "true", "rest"))


def least_told(numbers):
    """The least one of some numbers, of which some may be None; None if all are."""
    return min([number for number in numbers if number is not None], default=None)


def reads_fences(heads):
    """Whether heads read a head with size 0, used, with either flag, and lead from the one to the other."""
    wide = heads.rules.wide
    fences = [play_head(heads.codes[0], wide, (0, 1, flag)) for flag in (0, 1)]
    for flag, word in enumerate(fences):
        if [play_head(heads.code_for(kind), wide, (word,)) for kind in ("size", "used", "ahead")] != [0, 1, flag]:
            return False
    turned = [play_head(heads.code_for(kind), wide, (word,)) for kind, word in zip(("meet", "part"), fences)]
    return turned == fences[::-1]


def wrong_heads(program):
    """The first wrong number of heads."""
    heads = program.heads
    return least_told([1 << heads.rules.wide, head_wrong(heads, 0)]) if reads_fences(heads) else 0


def wrong_rounding(program):
    """The first wrong number of the rounding, or None."""
    return least_told([round_break(program.rounding, promise, 0) for promise in ROUND_ASKED])


def wrong_blocks(program):
    """The first wrong number of the codes of blocks, or None."""
    return least_told([next_wrong_block(code, 1) for code in program.blocks])


def wrong_bins(program):
    """The first wrong number of the bins."""
    rules = program.bins.rules
    return least_told([rules.most - rules.over + 1] + [bin_wrong(program.bins, promise, 0) for promise in BIN_ASKED])


def wrong_maps(program):
    """The first wrong number of the maps, or None."""
    least = least_told([map_wrong(program.maps, promise, 0) for promise in MAP_PROMISES])
    if least is None:
        return None
    return least_told([bin_floor(program.bins, least), ask_floor(program.bins, max(0, least - 1))])


def wrong_moves(program):
    """The first wrong number of the move, or None."""
    return move_wrong(program.move, 0)


def wrong_slabs(program):
    """The first wrong number of the slabs, or None if there are none."""
    found = [slab_wrong(slab, 0) for slab in program.slabs]
    return least_told(found + [slab.rules.top + 1 for slab in program.slabs])


def wrong_deeds(program):
    """The first wrong number of the deeds, or None."""
    ask, back, change = program.deeds
    found = [deed_next_wrong(deed, promise, 1) for deed in (ask, change) for promise in DEED_ASKED]
    return least_told(found + [deed_next_piece(back, promise, sort, 1) for promise in DEED_ASKED for sort in SORTS])


def wrong_top(program):
    """The first wrong number of the top codes, or None."""
    return least_told([top_next_wrong(code, promise, 0) for code, asked in zip(program.tops, TOP_ASKED)
                       for promise in asked])


def first_wrong(program):
    """The parts of a program that have a first wrong number: pairs of a name and this number."""
    found = [("heads", wrong_heads(program)), ("rounding", wrong_rounding(program)), ("blocks", wrong_blocks(program)),
             ("bins", wrong_bins(program)), ("maps", wrong_maps(program)), ("moves", wrong_moves(program)),
             ("slabs", wrong_slabs(program)), ("deeds", wrong_deeds(program)), ("top", wrong_top(program))]
    return tuple([pair for pair in found if pair[1] is not None])


def good_words(program):
    """How many words an allocator may have and surely not be broken: the least first wrong number; None for none."""
    return least_told([number for _, number in first_wrong(program)])
