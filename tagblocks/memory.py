"""The words of an allocator, each with what was written there last, and the links of the ring that stand elsewhere.

A word is ("head", number), ("foot", size), ("next", place), ("prev", place), ("map", page, number of the map word), or
("user", name, number of the word); places are addresses, or "bin". Where nothing stands there is no word.
"""

from tagblocks.blockmachine import LINK_PLACES
from tagblocks.headplay import play_head

# The code that changes a flag: which one, and how.
CHANGES = {("used", True): "use", ("used", False): "free", ("ahead", True): "meet", ("ahead", False): "part"}
# What a head reads of a word.
READS = ("size", "used", "ahead")


class Memory:
    """The words, how many there are by the end of memory, and the links of bin."""

    def __init__(self, heads, fence):
        self.heads = heads
        self.fence_words = fence
        self.words = {}
        self.size = 0
        self.bin_links = {"next": "bin", "prev": "bin"}
        # What codes read of numbers, each read once.
        self.known = {}

    def put(self, address, word):
        """Writes a word."""
        self.words[address] = word

    def head_at(self, address):
        """What the head at an address tells: its size, and whether it and the block ahead are used; None if none is."""
        word = self.words.get(address)
        return self.read_head(word[1]) if word is not None and word[0] == "head" else None

    def read_head(self, number):
        """What the codes of heads tell of a number."""
        if number not in self.known:
            wide = self.heads.rules.wide
            size, used, ahead = [play_head(self.heads.code_for(kind), wide, (number,)) for kind in READS]
            self.known[number] = (size, used != 0, ahead != 0)
        return self.known[number]

    def write_head(self, address, size, is_used, is_ahead_used):
        """Writes what make makes of a size and flags."""
        wide = self.heads.rules.wide
        handed = (size % (1 << wide), 1 if is_used else 0, 1 if is_ahead_used else 0)
        self.put(address, ("head", play_head(self.heads.codes[0], wide, handed)))

    def change_flag(self, address, which, worth):
        """Writes what the code for a flag makes of the number of the head at an address."""
        code = self.heads.code_for(CHANGES[(which, worth)])
        self.put(address, ("head", play_head(code, self.heads.rules.wide, (self.words[address][1],))))

    def fence_at(self):
        """The address of the fence."""
        return self.size - self.fence_words

    def walk(self):
        """The blocks from word 0 on, triples (address, size, whether it is used), and where the walk ends."""
        blocks = []
        at = 0
        while self.size > 0 and at < self.fence_at():
            head = self.head_at(at)
            if head is None or head[0] == 0 or at + head[0] > self.fence_at():
                break
            blocks.append((at, head[0], head[1]))
            at += head[0]
        return blocks, at

    def top_block(self):
        """The free block that ends at the fence, a pair of its address and its size, or None."""
        blocks, at = self.walk()
        if not blocks or at != self.fence_at() or blocks[-1][2]:
            return None
        return blocks[-1][:2]

    def link_word(self, place, which):
        """The place to which a link of a place leads, or None if none stands there."""
        if place == "bin":
            return self.bin_links[which]
        word = self.words.get(place + LINK_PLACES[which])
        return word[1] if word is not None and word[0] == which else None

    def write_link(self, place, which, worth):
        """Writes a link of a place."""
        if place == "bin":
            self.bin_links[which] = worth
        else:
            self.put(place + LINK_PLACES[which], (which, worth))

    def drop_words(self, start):
        """Lets all words from an address on go."""
        self.words = {address: word for address, word in self.words.items() if address < start}

    def write_end(self, size, top):
        """Writes the end of memory as a top code left it: so many words, of which top are a free block."""
        old = self.top_block()
        start = old[0] if old is not None else (self.fence_at() if self.size > 0 else 0)
        is_ahead_used = self.head_at(start)[2] if old is not None else True
        links = [(which, self.link_word(start, which)) for which in LINK_PLACES] if old is not None else []
        self.size = size
        self.drop_words(max(self.fence_at(), start))
        if top > 0:
            self.write_head(start, top, False, is_ahead_used)
            self.put(start + top - 1, ("foot", top))
            self.write_links(start, links)
        elif old is not None:
            self.tie_out(links)
        if size > 0:
            self.write_head(self.fence_at(), 0, True, top == 0 and is_ahead_used)

    def write_links(self, place, links):
        """Writes the links of a free block that had some, or hangs it in at the front of the ring."""
        for which, worth in links:
            if worth is not None:
                self.write_link(place, which, worth)
        if not links:
            first = self.bin_links["next"]
            self.write_link(place, "next", first)
            self.write_link(place, "prev", "bin")
            self.write_link(first, "prev", place)
            self.write_link("bin", "next", place)

    def tie_out(self, links):
        """Takes a block out of the ring that had these links."""
        behind, ahead = [worth for _, worth in links]
        if behind is not None and ahead is not None:
            self.write_link(ahead, "next", behind)
            self.write_link(behind, "prev", ahead)
