"""Which promises a play of a block code breaks."""

from tagblocks.blockmachine import LINK_PLACES

BLOCK_PROMISES = ("inside", "whole", "tiles", "owed", "flags", "feet", "ring", "full")


class Judge:
    """A machine behind its play, and the blocks that the heads tell then."""

    def __init__(self, machine, ended):
        self.machine = machine
        self.scene = machine.scene
        self.numbers = machine.numbers
        self.ended = ended
        self.blocks = []

    def breaches(self):
        """The promises that are broken, in their order."""
        found = {"inside": self.ended == "beyond", "whole": self.machine.has_spoilt}
        if self.ended == "refused":
            found["full"] = len(self.machine.wrote) > 0 or self.owed() is not None
        elif self.ended == "done":
            found["tiles"] = not self.walk()
            if not found["tiles"]:
                found["owed"] = not self.is_owed()
                found["flags"] = not self.has_flags()
                found["feet"] = not self.has_feet()
                found["ring"] = not self.has_ring()
        return tuple([promise for promise in BLOCK_PROMISES if found.get(promise)])

    def is_size(self, size):
        """Whether a number is a size in use."""
        if not self.numbers.is_multiple(size, self.machine.rules.unit):
            return False
        return not self.numbers.below(size, self.numbers.constant(self.machine.rules.least))

    def walk(self):
        """Goes from head to head; whether this leads to the head behind the stretch, which is as it was."""
        address = self.scene.first
        while not self.numbers.below(self.scene.end, address):
            word = self.machine.word_at(address)
            if word is None or word[0] != "head":
                return False
            self.blocks.append((address, word))
            if self.numbers.same(address, self.scene.end):
                return word[2] and self.numbers.same(word[1], self.scene.sizes["end"])
            if not self.is_size(word[1]):
                return False
            address = self.numbers.plus(address, 1, word[1])
        return False

    def parted(self, whole, want):
        """The blocks that are owed for a used one with the wanted size, cut off from a whole."""
        rest = self.numbers.plus(whole, -1, want)
        if self.numbers.below(rest, self.numbers.constant(self.machine.rules.least)):
            return [(whole, True)]
        return [(want, True), (rest, False)]

    def owed(self):
        """The blocks that are owed, pairs of a size and whether it is used; None for a no."""
        sizes, want = self.scene.sizes, self.scene.want
        own = sizes["own"]
        if self.scene.kind == "free":
            return [(self.numbers.plus(self.scene.end, -1, self.scene.first), False)]
        both = self.numbers.plus(own, 1, sizes["behind"]) if "behind" in sizes else own
        if self.numbers.below(both, want):
            return None
        ahead = [(sizes["ahead"], False)] if "ahead" in sizes else []
        if self.scene.kind == "cut" and "behind" in sizes:
            return [*ahead, (want, True), (self.numbers.plus(both, -1, want), False)]
        return ahead + self.parted(both, want)

    def is_owed(self):
        """Whether the blocks are those that are owed."""
        owed = self.owed()
        blocks = self.blocks[:-1]
        if owed is None or len(owed) != len(blocks):
            return False
        for (size, is_used), (_, word) in zip(owed, blocks):
            if word[2] != is_used or not self.numbers.same(word[1], size):
                return False
        return True

    def has_flags(self):
        """Whether each head tells whether the block ahead of it is used."""
        was_used = True
        for _, word in self.blocks:
            if word[3] != was_used:
                return False
            was_used = word[2]
        return True

    def has_feet(self):
        """Whether each free block has its foot."""
        for address, word in self.blocks:
            if not word[2]:
                last = self.machine.after(self.numbers.plus(address, 1, word[1]), -1)
                foot = self.machine.word_at(last)
                if foot is None or foot[0] != "foot" or not self.numbers.same(foot[1], word[1]):
                    return False
        return True

    def node_of(self, place, nodes):
        """Which one of the nodes of the ring a place is, as a number, or None."""
        for at, node in enumerate(nodes):
            if node[0] == place[0] and (node[1] == place[1] or self.is_same(node, place)):
                return at
        return None

    def is_same(self, node, place):
        """Whether two places that were told differently are the same address."""
        return node[0] == "at" and self.numbers.same(node[1], place[1])

    def link_of(self, node, which, nodes):
        """The number of the node to which a link of a node leads, or None."""
        if node[0] != "at":
            return self.node_of(self.machine.links[(node[1], which)], nodes)
        word = self.machine.word_at(self.machine.after(node[1], LINK_PLACES[which]))
        if word is None or word[0] != which:
            return None
        return self.node_of(word[1], nodes)

    def has_ring(self):
        """Whether the ring has bin, all free blocks of the stretch and all outside, each once."""
        blocks = [("at", address) for address, word in self.blocks if not word[2]]
        nodes = [("bin", None), *blocks, *[place for place in self.scene.ring if place[0] == "outside"]]
        reached = {}
        at = 0
        while at not in reached:
            reached[at] = True
            onward = self.link_of(nodes[at], "next", nodes)
            if onward is None or self.link_of(nodes[onward], "prev", nodes) != at:
                return False
            at = onward
        return at == 0 and len(reached) == len(nodes)
