"""Plays of block codes on block cases."""

from tagblocks.blockjudge import Judge
from tagblocks.blockmachine import BlockMachine
from tagblocks.errors import BadCase
from tagblocks.plainnumbers import PlainNumbers
from tagblocks.runs import run_through
from tagblocks.scenes import Scene
from tagblocks.texts import is_whole


def is_row(row, rules):
    """Whether a value is a row of blocks, of which no two free ones lie side by side."""
    if not isinstance(row, tuple):
        return False
    was_free = False
    for block in row:
        if not isinstance(block, tuple) or len(block) != 2:
            return False
        if not rules.is_size(block[0]) or not isinstance(block[1], bool) or (was_free and not block[1]):
            return False
        was_free = not block[1]
    return True


def is_ring(ring, row):
    """Whether a value is a tuple that has the number of each free block of a row once."""
    if not isinstance(ring, tuple) or [at for at in ring if not is_whole(at)]:
        return False
    return sorted(ring) == [at for at, (_, is_used) in enumerate(row) if not is_used]


def is_wanted(want, kind, size, rules):
    """Whether a value can be wanted by a code of a kind for a block of a size."""
    if kind == "free":
        return want is None
    if not rules.is_size(want):
        return False
    if kind == "grow":
        return want > size
    return kind == "take" or want <= size


def is_case(case, code):
    """Whether a value is a block case for a code."""
    if not isinstance(case, tuple) or len(case) != 4:
        return False
    row, ring, own, want = case
    if not is_row(row, code.rules) or not is_ring(ring, row) or not is_whole(own) or not 0 <= own < len(row):
        return False
    return row[own][1] == (code.kind != "take") and is_wanted(want, code.kind, row[own][0], code.rules)


def starts_of(row):
    """The addresses of the blocks of a row, and of the fence."""
    starts = [0]
    for size, _ in row:
        starts.append(starts[-1] + size)
    return starts


def scene_of(kind, case):
    """The scene of a case."""
    row, ring, own, want = case
    starts = starts_of(row)
    sizes = {"own": row[own][0]}
    inside = [own]
    last = own + 1
    if own > 0 and not row[own - 1][1]:
        sizes["ahead"] = row[own - 1][0]
        inside.append(own - 1)
    if last < len(row) and not row[last][1]:
        sizes["behind"] = row[last][0]
        inside.append(last)
        last += 1
    sizes["end"] = row[last][0] if last < len(row) else 0
    places = [("at" if at in inside else "outside", starts[at]) for at in ring]
    return Scene(kind, starts[own], sizes, want, places, PlainNumbers())


def told_place(place):
    """What is told of a place: its address, or bin."""
    return "bin" if place[0] == "bin" else place[1]


def told_word(word):
    """What is told of a word."""
    return (word[0], told_place(word[1])) if word[0] in ("next", "prev") else word


def words_of(case, machine):
    """All words with a role behind a play, also those that are not in the stretch."""
    row = case[0]
    starts = starts_of(row)
    words = {}
    was_used = True
    for at, (size, is_used) in enumerate(row):
        words[starts[at]] = ("head", size, is_used, was_used)
        if not is_used:
            words[starts[at] + size - 1] = ("foot", size)
        was_used = is_used
    words[starts[-1]] = ("head", 0, True, was_used)
    for (node, which), place in machine.links.items():
        if node is not None:
            words[node + (1 if which == "next" else 2)] = (which, told_place(place))
    for address, word in machine.words:
        words[address] = told_word(word)
    return words


class BlockPlay:
    """A play: how it ended, the words and links behind it, what it wrote, and which promises it breaks."""

    def __init__(self, code, case):
        machine = BlockMachine(scene_of(code.kind, case), code.rules, PlainNumbers())
        run = run_through(code.outline, machine)
        self.ended = run.ended
        self.words = words_of(case, machine)
        self.bin_links = {which: told_place(machine.links[(None, which)]) for which in ("next", "prev")}
        self.wrote = tuple(machine.wrote)
        self.broken = Judge(machine, run.ended).breaches()
        self.played = tuple(sorted(run.played))
        self.chosen = tuple(sorted(run.chosen))

    def lines(self):
        """The numbers of the lines that were played, ascending."""
        return self.played

    def sides(self):
        """The pairs of a line and the side to which its test came out, ascending."""
        return self.chosen


def play_block(code, case):
    """The play of a block code on a block case."""
    if not is_case(case, code):
        raise BadCase(case)
    return BlockPlay(code, case)
