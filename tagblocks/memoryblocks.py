"""Plays of block codes in the memory of an allocator."""

from tagblocks.blockmachine import LINK_PLACES, BlockMachine
from tagblocks.plainnumbers import PlainNumbers
from tagblocks.runs import run_through
from tagblocks.scenes import BIN, LOST


class MemoryScene:
    """The stretch of a play, as the words tell it."""

    def __init__(self, memory, own, want):
        self.own = own
        self.want = want
        head = memory.head_at(own)
        size = 0 if head is None else head[0]
        self.first = own
        foot = memory.words.get(own - 1)
        if head is not None and not head[2] and foot is not None and foot[0] == "foot":
            self.first = own - foot[1]
        self.end = own + size
        behind = memory.head_at(self.end)
        if behind is not None and not behind[1]:
            self.end = self.end + behind[0]
        self.words = []
        self.links = {}

    def kept_words(self):
        """No words are watched: what is lost shows later."""
        return None


class MemoryMachine(BlockMachine):
    """A play of a block code that reads and writes the words of a memory."""

    def __init__(self, memory, rules, scene):
        super().__init__(scene, rules, PlainNumbers())
        self.memory = memory

    def place_of(self, worth):
        """The place that a link tells."""
        if worth == "bin":
            return BIN
        return ("at", worth) if self.is_inside(worth) else ("outside", worth)

    def word_at(self, address):
        """The word with a role that stands at an address, or None."""
        word = self.memory.words.get(address)
        if word is None or word[0] in ("map", "user"):
            return None
        if word[0] == "head":
            size, is_used, is_ahead_used = self.memory.read_head(word[1])
            return ("head", size, is_used, is_ahead_used)
        return word if word[0] == "foot" else (word[0], self.place_of(word[1]))

    def link_at(self, name, which):
        """The place that a link tells, or None if it cannot be read."""
        if self.places[name] == BIN:
            return self.place_of(self.memory.bin_links[which])
        address = self.address_of(name)
        where = None if address is None else address + LINK_PLACES[which]
        word = self.word_at(where) if where is not None and self.is_inside(where) else None
        return word[1] if word is not None and word[0] == which else None

    def write(self, address, word, mark):
        """Writes a word with a role."""
        if word[0] == "head":
            self.memory.write_head(address, word[1], word[2], word[3])
        elif word[0] == "foot":
            self.memory.put(address, word)
        else:
            self.memory.put(address, (word[0], "bin" if word[1] == BIN else word[1][1]))
        return True

    def change_head(self, step):
        """Changes a part of a head; False if that is beyond."""
        if step[0] == "resize":
            return super().change_head(step)
        if self.head_at(step[1]) is None:
            return False
        self.memory.change_flag(self.places[step[1]][1], step[2], step[3])
        return True

    def tie(self, step):
        """Writes a link; False if that is beyond."""
        place, worth = self.places[step[2]], self.places[step[3]]
        if place is None or worth is None or worth == LOST or (worth[0] == "at" and not self.is_inside(worth[1])):
            return False
        if place[0] in ("bin", "outside"):
            told = "bin" if worth == BIN else worth[1]
            self.memory.write_link("bin" if place == BIN else place[1], step[1], told)
            return True
        address = self.address_of(step[2])
        where = None if address is None else address + LINK_PLACES[step[1]]
        if where is None or not self.is_inside(where):
            return False
        return self.write(where, (step[1], worth), None)


def play_in_memory(code, memory, own, want):
    """Plays a block code on the block at an address; how the play ended."""
    machine = MemoryMachine(memory, code.rules, MemoryScene(memory, own, want))
    return run_through(code.outline, machine).ended
