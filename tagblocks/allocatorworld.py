"""The world in which an allocator plays deeds: steps are played by the codes of the other parts."""

from tagblocks.binrows import Rows
from tagblocks.deedmachine import Outcome, is_fitting, known
from tagblocks.forms import plain
from tagblocks.memory import Memory
from tagblocks.memoryblocks import play_in_memory
from tagblocks.moveplay import MoveMachine
from tagblocks.runs import run_through
from tagblocks.slabs import SlabPage
from tagblocks.topplay import top_machine

# Map words beyond so many are not written: no memory is so long.
MOST_MAPS = 1 << 20
BLOCK_PARTS = ("free", "take", "grow", "cut")


class LentPage:
    """A page: its class, the address of its block, how it stands, and a number of its own."""

    def __init__(self, slot, address, page, number):
        self.slot = slot
        self.address = address
        self.page = page
        self.number = number

    def many_words(self):
        """How many map words were written."""
        return min(self.page.maps, MOST_MAPS)

    def first_map_word(self):
        """The address of the first map word."""
        return self.address + self.page.slab.rules.head

    def place_address(self, number):
        """The address of the first word of a place."""
        rules = self.page.slab.rules
        return self.address + rules.head + self.page.maps + rules.each * number

    def lent_addresses(self):
        """The addresses of the first words of all places that are lent."""
        return [self.place_address(number) for number in sorted(self.page.page.marked) if number < self.page.many]


class World:
    """The memory, the rows and the pages of an allocator, and the steps of the call that is made.

    broken is None, or the pair that tells what was beyond. Where a piece is is told by a pair: the address of its
    block, or of the first word of its place, and its page, None for a block.
    """

    def __init__(self, program):
        self.program = program
        self.memory = Memory(program.heads, program.tops[0].rules.fence)
        self.rows = Rows(program.bins, program.maps)
        self.pages = []
        self.many_pages = 0
        self.broken = None
        self.steps = []

    def size_of(self, n):
        """The size that the rounding tells for a number, or None."""
        rounding = self.program.rounding
        return rounding.size_for(n) if 0 <= n < 1 << rounding.rules.wide else None

    def block_size(self, address):
        """The size that the head of a block tells; 0 if there is no head."""
        head = self.memory.head_at(address)
        return 0 if head is None else head[0]

    def follow(self):
        """Lets the rows follow what the walk meets; whether no code was beyond."""
        blocks, _ = self.memory.walk()
        self.rows.follow(blocks)
        self.broken = self.broken or self.rows.broken
        return self.broken is None

    def play_block(self, kind, address, want):
        """Plays a block code on the block at an address; how it ended, None if something was beyond."""
        code = self.program.blocks[BLOCK_PARTS.index(kind)]
        ended = play_in_memory(code, self.memory, address, want)
        if ended == "beyond":
            self.broken = ("blocks", kind)
            return None
        return ended if self.follow() else None

    def play_end(self, kind, need):
        """Plays a top code, and writes the end of memory if it changed; how it ended, None if something was beyond."""
        code = self.program.tops[0 if kind == "grow" else 1]
        block = self.memory.top_block()
        old = (self.memory.size, 0 if block is None else block[1])
        machine = top_machine(code, old[0], old[1], need)
        if machine.ended == "beyond":
            self.broken = ("top", kind)
            return None
        new = (known(machine.worths["size"]), known(machine.worths["top"]))
        if new != old:
            self.memory.write_end(new[0], new[1])
            if not self.follow():
                return None
        return machine.ended

    def come_out(self, machine, step, piece, amount, slot):
        """How a step comes out; None if something was beyond, or it came out as no deed lets."""
        number = known(amount)
        if step[0] in ("take", "top"):
            told = self.find_block(number) if step[0] == "take" else self.play_top(number)
        elif step[0] == "slot":
            told = self.lend(slot)
        elif step[0] == "drop":
            told = self.bring(piece)
        else:
            told = self.resize(step[0], piece, number)
        if told is None:
            return None
        room = known(told.room)
        self.steps.append((step[0], told.word, room))
        old = None if piece is None else known(piece.room)
        if not is_fitting(machine.rules, step[0], old, number, (told.word, room)):
            self.broken = ("deeds", step[0])
            return None
        return told

    def block_told(self, word, address):
        """An outcome with the block at an address."""
        return Outcome(word, plain(self.block_size(address) - 1), (address, None))

    def take_whole(self, address, words):
        """Plays take on a free block with its own size as want, and tells the first word or, if refused, the other."""
        ended = self.play_block("take", address, self.block_size(address))
        if ended is None:
            return None
        return self.block_told(words[0], address) if ended == "done" else Outcome(words[1])

    def find_block(self, n):
        """How a step with take comes out."""
        size = self.size_of(n)
        if size is None:
            return Outcome("none")
        address = self.rows.block_for(n, size)
        self.broken = self.rows.broken
        if self.broken is not None:
            return None
        return Outcome("none") if address is None else self.take_whole(address, ("found", "none"))

    def play_top(self, n):
        """How a step with top comes out."""
        size = self.size_of(n)
        if size is None:
            return Outcome("shut")
        block = self.memory.top_block()
        if block is None or block[1] < size:
            ended = self.play_end("grow", size)
            if ended is None:
                return None
            block = self.memory.top_block()
            if ended == "refused" or block is None:
                return Outcome("shut")
        return self.take_whole(block[0], ("grown", "shut"))

    def resize(self, kind, piece, n):
        """How a step with cut or grow comes out."""
        words = ("cut", "kept") if kind == "cut" else ("grown", "stuck")
        if kind == "grow" and n <= known(piece.room):
            return Outcome("grown", piece.room)
        address = piece.at[0]
        old, size = self.block_size(address), self.size_of(n)
        if size is not None and (size <= old) == (kind == "cut"):
            if self.play_block(kind, address, size) is None:
                return None
        if self.block_size(address) == old:
            return Outcome(words[1])
        return self.block_told(words[0], address)

    def lend(self, slot):
        """How a step with slot comes out."""
        for page in reversed(list(self.pages)):
            if page.slot == slot and page.page.is_listed:
                ended, at = page.page.play_on(page.page.slab.take, 0)
                if ended == "beyond":
                    self.broken = ("slabs", "take")
                    return None
                if ended == "done":
                    return Outcome("got", None, (page.address + at, page))
        return Outcome("full")

    def bring(self, piece):
        """How a step with drop comes out."""
        address, page = piece.at
        ended, _ = page.page.play_on(page.page.slab.back, address - page.address)
        if ended == "beyond":
            self.broken = ("slabs", "back")
            return None
        if not page.page.is_dropped:
            return Outcome("more")
        self.pages = [one for one in self.pages if one.number != page.number]
        return self.block_told("last", page.address)

    def act(self, machine, step, piece, amount, other):
        """Plays a line without outcomes; whether nothing was beyond."""
        if step[0] == "hang":
            if self.play_block("free", piece.at[0], None) is None or self.play_end("trim", None) is None:
                return False
        elif step[0] == "page":
            if not self.make_page(piece.at[0], known(amount)):
                return False
        elif step[0] == "move":
            if not self.copy_words(other, piece, known(amount)):
                return False
        self.steps.append((step[0], None, known(amount)))
        return True

    def make_page(self, address, slot):
        """Makes the block at an address a page of a class; whether it has a layout with places."""
        slab = self.program.slabs[self.program.deeds[0].rules.slots.index(slot)]
        size = self.block_size(address)
        layout = slab.layout(size) if slab.rules.is_size(size) else None
        if layout is None or layout[0] == 0:
            self.broken = ("slabs", "lay")
            return False
        made = LentPage(slot, address, SlabPage(slab, size), self.many_pages)
        self.many_pages += 1
        self.pages.append(made)
        for at in range(made.many_words()):
            self.memory.put(made.first_map_word() + at, ("map", made.number, at))
        return True

    def first_word(self, piece):
        """The address of the first word of a piece's room."""
        return piece.at[0] + (1 if piece.sort_name == "block" else 0)

    def copy_words(self, own, piece, many):
        """Plays the move code from own's first word to a piece's; whether it was not beyond."""
        source = self.first_word(own)
        code = self.program.move
        memory = self.memory
        machine = MoveMachine(memory.words, source, many, self.first_word(piece) - source)
        ended = run_through(code.outline, machine).ended
        memory.words = {address: word for address, word in machine.words.items() if word is not None}
        if ended == "beyond":
            self.broken = ("moves", code.kind)
            return False
        return True
