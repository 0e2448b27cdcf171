"""The machine that plays block codes: registers, places, and the words of the stretch."""

from tagblocks.blockcodes import PLACES, REGISTERS
from tagblocks.runs import compared, sum_of
from tagblocks.scenes import BIN, LOST

# Which part of a head is changed: where it stands in the tuple of its word.
PARTS = {"size": 1, "used": 2, "ahead": 3}
LINK_PLACES = {"next": 1, "prev": 2}


class BlockMachine:
    """A play of a block code in a scene. What a step needs is looked up first: a step that is beyond changes nothing.

    A place is a pair: ("at", address), ("outside", a block's name), BIN or LOST. A word is ("head", size, used, ahead),
    ("foot", size), ("next", place) or ("prev", place); words has them with their addresses, as they were written.
    """

    def __init__(self, scene, rules, numbers):
        self.scene = scene
        self.rules = rules
        self.numbers = numbers
        self.worths = {name: numbers.constant(0) for name in REGISTERS}
        self.worths["unit"] = numbers.constant(rules.unit)
        self.worths["least"] = numbers.constant(rules.least)
        self.worths["want"] = scene.want
        self.places = {name: None for name in PLACES}
        self.places["own"] = ("at", scene.own)
        self.places["bin"] = BIN
        self.words = list(scene.words)
        self.links = dict(scene.links)
        self.wrote = []
        self.has_spoilt = False

    def after(self, address, many):
        """The address so many words on."""
        return self.numbers.plus(address, many, self.numbers.constant(1))

    def is_inside(self, address):
        """Whether an address is one of the stretch."""
        return not self.numbers.below(address, self.scene.first) and not self.numbers.below(self.scene.end, address)

    def word_at(self, address):
        """The word with a role that stands at an address, or None."""
        for where, word in reversed(list(self.words)):
            if self.numbers.same(where, address):
                return word
        return None

    def address_of(self, name):
        """The address of a place in the stretch; None if it is none."""
        place = self.places[name]
        if place is None or place[0] != "at" or not self.is_inside(place[1]):
            return None
        return place[1]

    def head_at(self, name):
        """The word at a place if it is a head of the stretch, or None."""
        address = self.address_of(name)
        word = None if address is None else self.word_at(address)
        return word if word is not None and word[0] == "head" else None

    def foot_ahead(self, name):
        """The word ahead of a place if it is a foot of the stretch, or None."""
        address = self.address_of(name)
        if address is None or self.numbers.same(address, self.scene.first):
            return None
        word = self.word_at(self.after(address, -1))
        return word if word is not None and word[0] == "foot" else None

    def link_at(self, name, which):
        """The place that a link tells, or None if it cannot be read."""
        if self.places[name] == BIN:
            return self.links[(None, which)]
        address = self.address_of(name)
        if address is None:
            return None
        where = self.after(address, LINK_PLACES[which])
        word = self.word_at(where) if self.is_inside(where) else None
        return word[1] if word is not None and word[0] == which else None

    def write(self, address, word, mark):
        """Writes a word with a role; mark tells what the line wrote."""
        kept = self.scene.kept_words()
        if kept is not None and self.numbers.below(self.scene.own, address):
            end = self.numbers.plus(self.scene.own, 1, kept)
            self.has_spoilt = self.has_spoilt or self.numbers.below(address, end)
        self.words.append((address, word))
        self.wrote.append(mark)
        return True

    def reckoned(self, terms):
        """What a sum comes to."""
        return sum_of(terms, self.worths, self.numbers)

    def play_step(self, step):
        """Plays a line; False if it is beyond."""
        if step[0] == "set":
            self.worths[step[1]] = self.reckoned(step[2])
            return True
        if step[0] in ("size", "size ahead"):
            word = self.head_at(step[2]) if step[0] == "size" else self.foot_ahead(step[2])
            if word is not None:
                self.worths[step[1]] = word[1]
            return word is not None
        if step[0] in ("copy", "go", "link"):
            place = self.place_for(step)
            if place is not None:
                self.places[step[1]] = place
            return place is not None
        if step[0] == "tie":
            return self.tie(step)
        if step[0] in ("head", "foot"):
            return self.write_anew(step)
        return self.change_head(step)

    def place_for(self, step):
        """The place that a line sets a register to, or None if it is beyond."""
        if step[0] == "link":
            return self.link_at(step[3], step[2])
        place = self.places[step[2]]
        if step[0] == "copy" or place is None:
            return place
        if place[0] != "at":
            return LOST
        return ("at", self.numbers.plus(place[1], step[3], self.reckoned(step[4])))

    def write_anew(self, step):
        """Writes a head or a foot; False if that is beyond."""
        address = self.address_of(step[1])
        size = self.reckoned(step[2])
        least = 0 if step[0] == "head" else 1
        if address is None or self.numbers.below(size, self.numbers.constant(least)):
            return False
        if step[0] == "head":
            return self.write(address, ("head", size, step[3], step[4]), (address, "head"))
        last = self.after(self.numbers.plus(address, 1, size), -1)
        return self.is_inside(last) and self.write(last, ("foot", size), (last, "foot"))

    def change_head(self, step):
        """Changes a part of a head; False if that is beyond."""
        word = self.head_at(step[1])
        if word is None:
            return False
        which = "size" if step[0] == "resize" else step[2]
        worth = self.reckoned(step[2]) if which == "size" else step[3]
        if which == "size" and self.numbers.below(worth, self.numbers.constant(0)):
            return False
        changed = list(word)
        changed[PARTS[which]] = worth
        address = self.places[step[1]][1]
        return self.write(address, tuple(changed), (address, "size" if which == "size" else "flag"))

    def tie(self, step):
        """Writes a link; False if that is beyond."""
        place, worth = self.places[step[2]], self.places[step[3]]
        if place is None or worth is None or worth == LOST or (worth[0] == "at" and not self.is_inside(worth[1])):
            return False
        if place[0] in ("bin", "outside"):
            self.links[(place[1], step[1])] = worth
            self.wrote.append(("bin" if place == BIN else place[1], step[1]))
            return True
        address = self.address_of(step[2])
        where = None if address is None else self.after(address, LINK_PLACES[step[1]])
        if where is None or not self.is_inside(where):
            return False
        return self.write(where, (step[1], worth), (address, step[1]))

    def part_holds(self, part):
        """Whether a part of a test holds, or None if it is beyond."""
        if part[0] in ("used", "ahead"):
            word = self.head_at(part[1])
            return None if word is None else word[PARTS[part[0]]]
        if part[0] == "bin":
            place = self.places[part[1]]
            return None if place is None else place == BIN
        return compared(part, self.worths, self.numbers)
