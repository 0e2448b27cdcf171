"""What can be asked about heads and roundings at a size or length of open bits, and the least one at which it is so."""

from tagblocks.bitwords import BitWords, are_same, is_below, plain_bits
from tagblocks.circuits import NO, YES
from tagblocks.headcircuits import BitPlay

HEAD_PROMISES = ("inside", "size", "used", "ahead", "marks")
ROUND_PROMISES = ("even", "enough", "tight", "full")
FLAGS = ((0, 0), (0, 1), (1, 0), (1, 1))
# The flags behind a change; None is what was so.
NEW_FLAGS = {"use": (1, None), "free": (0, None), "meet": (None, 1), "part": (None, 0)}
# So many figures more has a sum of a word and over or unit.
SPARE = 14


class HeadGoals:
    """The plays of heads on a size, a sum of bits, and the literals that tell where promises are broken."""

    def __init__(self, heads, words, size):
        self.heads = heads
        self.words = words
        self.circuit = words.circuit
        self.size = size
        self.made = {flags: self.told_by("make", (size, {None: flags[0]}, {None: flags[1]})) for flags in FLAGS}

    def told_by(self, kind, handed):
        """What the code of a kind tells of some words."""
        return BitPlay(self.heads.code_for(kind), handed, self.words).told_word()

    def breaks(self, promise, flags):
        """Whether a promise is broken with two flags."""
        word = self.made[flags]
        if promise == "inside":
            bits = self.words.bits_of(word)
            return is_below(self.circuit, bits, plain_bits(1 << self.heads.rules.field)) ^ 1
        if promise == "marks":
            return self.circuit.any_of([self.changed_wrong(kind, flags) for kind in NEW_FLAGS])
        owed = {"size": self.size, "used": {None: flags[0]}, "ahead": {None: flags[1]}}
        return differ(self.words, self.told_by(promise, (word,)), owed[promise])

    def changed_wrong(self, kind, flags):
        """Whether the code of a kind that changes a flag tells another word than the one with the new flag."""
        new_flags = tuple([old if new is None else new for old, new in zip(flags, NEW_FLAGS[kind])])
        return differ(self.words, self.told_by(kind, (self.made[flags],)), self.made[new_flags])

    def breaks_somehow(self, promise):
        """Whether a promise is broken with some flags."""
        return self.circuit.any_of([self.breaks(promise, flags) for flags in FLAGS])

    def wrong(self):
        """Whether some promise is broken with some flags."""
        return self.circuit.any_of([self.breaks_somehow(promise) for promise in HEAD_PROMISES])


class RoundGoals:
    """The play of a rounding on a length, a sum of bits, and the literals that tell where promises are broken."""

    def __init__(self, rounding, words, n):
        rules = rounding.rules
        self.rules = rules
        self.words = words
        self.circuit = words.circuit
        play = BitPlay(rounding.code, (n,), words)
        self.refused = play.refused
        self.bits = words.bits_of(play.told_word())
        # Told less what is wanted is reckoned by its parts, so that n often drops out of it.
        self.gap = words.bits_of(words.sum_of([(1, play.told_word()), (-1, n), (1, {None: -rules.over})]))
        wide = BitWords(rules.wide + SPARE, self.circuit)
        self.wanted = wide.bits_of(wide.sum_of([(1, n), (1, {None: rules.over})]))
        self.above = wide.bits_of(wide.sum_of([(1, n), (1, {None: rules.over + rules.unit})]))
        is_multiple = self.circuit.none_of(self.low_bits(self.bits))
        self.tells_size = self.circuit.both(self.from_number(rules.least), is_multiple)
        self.enough = is_below(self.circuit, self.bits, self.wanted) ^ 1

    def low_bits(self, bits):
        """The bits that are not set in a multiple of unit."""
        return bits[:self.rules.unit.bit_length() - 1]

    def from_number(self, number):
        """Whether the told word is a number or more."""
        return is_below(self.circuit, self.bits, plain_bits(number)) ^ 1

    def breaks(self, promise):
        """Whether a promise is broken."""
        if promise == "full":
            last = plain_bits(self.rules.last_size())
            return self.circuit.both(self.refused, is_below(self.circuit, last, self.wanted) ^ 1)
        if promise == "even":
            return self.circuit.both(self.refused ^ 1, self.tells_size ^ 1)
        if promise == "enough":
            return self.circuit.both(self.refused ^ 1, self.enough ^ 1)
        loose = self.circuit.both(is_below(self.circuit, self.bits, self.above) ^ 1,
                                  self.from_number(self.rules.least + self.rules.unit))
        return self.circuit.all_of([self.refused ^ 1, self.tells_size, self.enough, loose])

    def wrong(self):
        """Whether some promise is broken."""
        return self.circuit.any_of([self.breaks(promise) for promise in ROUND_PROMISES])

    def right(self):
        """Whether none is; the last part follows of the others, and makes dead ends be seen much sooner."""
        near = self.circuit.none_of(self.gap[self.rules.unit.bit_length() - 1:])
        least = are_same(self.circuit, self.bits, plain_bits(self.rules.least))
        return self.circuit.both(self.wrong() ^ 1, self.circuit.any_of([self.refused, least, near]))


def differ(words, one, other):
    """Whether two sums of bits differ: some bits are not the same, which also shows in one less the other."""
    circuit = words.circuit
    pairs = zip(words.bits_of(one), words.bits_of(other))
    unlike = circuit.any_of([circuit.unlike(left, right) for left, right in pairs])
    if unlike == NO:
        return NO
    return circuit.both(unlike, circuit.any_of(words.bits_of(words.sum_of([(1, one), (-1, other)]))))


def parted(rounding, other, words, n):
    """Whether two roundings do not do the same for a length."""
    one, two = BitPlay(rounding.code, (n,), words), BitPlay(other.code, (n,), words)
    circuit = words.circuit
    both_told = circuit.both(one.refused ^ 1, two.refused ^ 1)
    told_unlike = circuit.both(both_told, differ(words, one.told_word(), two.told_word()))
    return circuit.either(circuit.unlike(one.refused, two.refused), told_unlike)


def least_of(words, bits, goal, low, high):
    """The least number from one to another one that bits can tell where a goal holds, or None."""
    circuit = words.circuit
    clauses = circuit.clauses
    below = is_below(circuit, bits, plain_bits(low))
    above = is_below(circuit, plain_bits(high), bits)
    for literal in (goal, below ^ 1, above ^ 1):
        circuit.need(literal)
        clauses.add([literal])
    if not clauses.search([]):
        return None
    best = number_of(clauses, bits)
    clauses.cancel(0)
    for at in range(len(bits) - 1, -1, -1):
        is_set = best >> at & 1 == 1
        if is_set and bits[at] != YES:
            if clauses.search([bits[at] ^ 1]):
                best = number_of(clauses, bits)
                is_set = False
            clauses.cancel(0)
        clauses.add([bits[at] if is_set else bits[at] ^ 1])
    return best


def number_of(clauses, bits):
    """The number that bits tell at the moment."""
    return sum([1 << at for at, literal in enumerate(bits) if clauses.worths[literal] > 0])
