"""The rows of the bins of an allocator, and the words of its map."""

from tagblocks.binplay import BinPlay
from tagblocks.mapmachine import MapMachine, start_knowledge, worth_of_masks


class Rows:
    """For each bin the row of the addresses of its blocks; which bin and size each block in a row has.

    broken is None, or the pair that tells which code was beyond. has_lost tells whether a play of a map code has ever
    left other words or another roof than go with the rows.
    """

    def __init__(self, bins, maps):
        self.bins = bins
        self.maps = maps
        self.rules = bins.rules
        self.rows = [[] for _ in range(bins.rules.bins)]
        self.hung = {}
        self.words = [0] * bins.rules.words
        self.broken = None
        self.has_lost = False

    def masks_of(self, number):
        """The bits of a number, as map machines have them: a bit that is set has the one that always is."""
        always = 1 << self.rules.bins
        return tuple([always if number >> at & 1 else 0 for at in range(self.rules.wide)])

    def play_map(self, kind, number):
        """Plays a map code from the words as they are; what it tells, None if it is refused or beyond."""
        always = 1 << self.rules.bins
        roof = sum([1 << at for at, word in enumerate(self.words) if word])
        known = start_knowledge(self.rules, always - 1, 0)
        words = [self.masks_of(word) for word in self.words]
        machine = MapMachine(self.maps.code_for(kind), self.rules, known, words, self.masks_of(roof))
        machine.worths["bin"] = number
        machine.advance()
        self.words = [worth_of_masks(masks, always) for masks in machine.words]
        if machine.ended == "beyond":
            self.broken = ("maps", kind)
            return None
        if self.words != self.owed_words() or worth_of_masks(machine.roof, always) != self.owed_roof():
            self.has_lost = True
        return machine.told

    def owed_words(self):
        """The words of a map that is as the rows are."""
        wide = self.rules.wide
        owed = [0] * self.rules.words
        for at, row in enumerate(self.rows):
            if row:
                owed[at // wide] += 1 << (at % wide)
        return owed

    def owed_roof(self):
        """The roof of a map that is as the rows are."""
        return sum([1 << at for at, word in enumerate(self.owed_words()) if word])

    def bin_of(self, kind, number):
        """The play of a class code on a number; None if it is beyond, and the rows are broken then."""
        code = self.bins.hangs if kind == "hang" else self.bins.asks
        play = BinPlay(code, self.rules, number)
        if play.ended == "beyond":
            self.broken = ("bins", kind)
            return None
        return play

    def follow(self, blocks):
        """Lets blocks leave and join rows, so that the rows are those of the free blocks of a walk."""
        free = {address: size for address, size, is_used in blocks if not is_used}
        for address in sorted(self.hung):
            size, number = self.hung[address]
            if self.broken is None and free.get(address) != size:
                self.hung.pop(address)
                self.rows[number] = [one for one in self.rows[number] if one != address]
                if not self.rows[number]:
                    self.play_map("clear", number)
        for address in sorted(free):
            if self.broken is None and address not in self.hung:
                self.hang_in(address, free[address])

    def hang_in(self, address, size):
        """Lets a free block come to the front of the row of its bin."""
        play = self.bin_of("hang", size)
        if play is None:
            return
        number = play.number
        self.hung[address] = (size, number)
        self.rows[number] = [address, *self.rows[number]]
        if len(self.rows[number]) == 1:
            self.play_map("mark", number)

    def first_in(self, number):
        """The first block of the row of a bin, or None if there is no such bin or no block."""
        if number is None or not 0 <= number < self.rules.bins or not self.rows[number]:
            return None
        return self.rows[number][0]

    def block_for(self, n, size):
        """A free block for a length, whose size is wanted, or None; the rows may be broken then."""
        play = self.bin_of("ask", n)
        if play is None or play.ended == "refused":
            return None
        found = self.play_map("find", play.number)
        if self.broken is not None:
            return None
        if play.is_looking and found == play.number:
            for address in self.rows[found]:
                if self.hung[address][0] >= size:
                    return address
            if found + 1 >= self.rules.bins:
                return None
            found = self.play_map("find", found + 1)
            if self.broken is not None:
                return None
        return self.first_in(found)
