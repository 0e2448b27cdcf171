"""Where plays of block codes take place: the stretch with its words, and the ring."""

# The places that never change.
BIN = ("bin", None)
LOST = ("lost", None)


class Scene:
    """The stretch of a play: its sizes and addresses, which are known or open, and what stands in it at the start.

    sizes has the sizes of "own", of the free blocks "ahead" and "behind" if they are there, and "end", what the head
    behind all of them tells. ring is the row of the places from bin on. want is None for codes that free.
    """

    def __init__(self, kind, start, sizes, want, ring, numbers):
        self.kind = kind
        self.sizes = dict(sizes)
        self.want = want
        self.ring = list(ring)
        self.own = start
        self.first = numbers.plus(start, -1, sizes["ahead"]) if "ahead" in sizes else start
        self.behind = numbers.plus(start, 1, sizes["own"])
        self.end = numbers.plus(self.behind, 1, sizes["behind"]) if "behind" in sizes else self.behind
        self.links = {}
        self.words = []
        self._stand(numbers)

    def places_of_links(self):
        """For each place of the ring the places behind it and ahead of it, as triples."""
        whole = [BIN, *self.ring]
        many = len(whole)
        return [(whole[at], whole[(at + 1) % many], whole[at - 1]) for at in range(many)]

    def is_free(self, sort):
        """Whether own, or the block ahead or behind, is free."""
        return sort != "own" or self.kind == "take"

    def _stand(self, numbers):
        """Writes what stands in the stretch at the start."""
        was_used = True
        for sort, address in (("ahead", self.first), ("own", self.own), ("behind", self.behind)):
            if sort in self.sizes:
                size = self.sizes[sort]
                self.words.append((address, ("head", size, not self.is_free(sort), was_used)))
                if self.is_free(sort):
                    last = numbers.plus(numbers.plus(address, 1, size), -1, numbers.constant(1))
                    self.words.append((last, ("foot", size)))
                was_used = not self.is_free(sort)
        self.words.append((self.end, ("head", self.sizes["end"], True, was_used)))
        for place, behind, ahead in self.places_of_links():
            if place[0] == "at":
                self.words.append((numbers.plus(place[1], 1, numbers.constant(1)), ("next", behind)))
                self.words.append((numbers.plus(place[1], 2, numbers.constant(1)), ("prev", ahead)))
            else:
                self.links[(place[1], "next")] = behind
                self.links[(place[1], "prev")] = ahead

    def kept_words(self):
        """How many words of own, from its head on, have to keep their data behind the head; None for none."""
        if self.kind == "grow":
            return self.sizes["own"]
        return self.want if self.kind == "cut" else None
