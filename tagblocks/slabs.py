"""Slabs, and pages of them that are really played."""

from tagblocks.errors import BadNumber, BadSize, Broken, OtherKinds
from tagblocks.headrules import is_between
from tagblocks.slablines import SLAB_KINDS
from tagblocks.slabmachine import Page, play_lay, play_page


class Slab:
    """Slab rules, and a code of each kind."""

    def __init__(self, rules, lay, take, back):
        if (lay.kind, take.kind, back.kind) != SLAB_KINDS:
            raise OtherKinds("slabs")
        self.rules = rules
        self.lay = lay
        self.take = take
        self.back = back

    def __eq__(self, other):
        return (isinstance(other, Slab) and self.rules == other.rules and self.lay == other.lay
                and self.take == other.take and self.back == other.back)

    def layout(self, size):
        """How many places and map words lay tells for a size, or None if it is beyond."""
        if not self.rules.is_size(size):
            raise BadSize(size)
        machine, ended = play_lay(self.rules, self.lay, size)
        return None if ended == "beyond" else (machine.worths["many"], machine.worths["maps"])


class SlabPage:
    """A page of a slab as its codes leave it, right or not."""

    def __init__(self, slab, size):
        layout = slab.layout(size)
        if layout is None or layout[0] == 0:
            raise Broken("slabs")
        self.slab = slab
        self.many = layout[0]
        self.maps = layout[1]
        self.is_broken = False
        self.page = Page(self.many, self.maps, ())
        self._take_over()

    def _take_over(self):
        """Tells by attributes how the page stands."""
        self.used = self.page.used
        self.is_listed = self.page.is_listed
        self.is_dropped = self.page.is_dropped

    def play_on(self, code, at):
        """Plays a code on the page: how it ended, "beyond" also if it cannot be played, and the address at its end."""
        if self.is_broken or self.is_dropped:
            return "beyond", None
        machine, ended = play_page(self.slab.rules, code, self.page, at)
        self._take_over()
        self.is_broken = ended == "beyond"
        return ended, machine.worths["at"]

    def _play(self, code, at):
        """Plays a code on the page: the address at its end, None if it is refused."""
        ended, found = self.play_on(code, at)
        if ended == "beyond":
            raise Broken("slabs")
        return None if ended == "refused" else found

    def lend(self):
        """Lends a place: its address, or None if take refuses."""
        return self._play(self.slab.take, 0)

    def bring(self, at):
        """Brings back what is at an address; whether back does not refuse."""
        if not is_between(at, 0, self.slab.rules.top):
            raise BadNumber(at)
        return self._play(self.slab.back, at) is not None

    def map_words(self):
        """The map words as numbers."""
        words = [0] * self.maps
        for bit in self.page.marked:
            words[bit // self.slab.rules.wide] += 1 << (bit % self.slab.rules.wide)
        return tuple(words)
