"""Words of open bits: sums of bits with factors, whose figures in twos are made only when they are needed.

A sum is a dict from literals to factors, None for what is added; all by the rest by 2 ** wide. Equal sums are told
by equal dicts, in whatever order they were added up.
"""

from tagblocks.circuits import NO, YES


class BitWords:
    """What is done with words of wide bits, in a circuit."""

    def __init__(self, wide, circuit):
        self.wide = wide
        self.circuit = circuit
        self.made = {}

    def open_bits(self, many):
        """A row of so many open bits."""
        return [self.circuit.open_truth() for _ in range(many)]

    def sum_of(self, parts):
        """The sum of words, pairs of a factor and a row of bits or a sum."""
        total = {None: 0}
        for times, word in parts:
            for literal, factor in word.items():
                total[literal] = total.get(literal, 0) + times * factor
        mask = (1 << self.wide) - 1
        return {one: factor & mask for one, factor in total.items() if factor & mask or one is None}

    def of_bits(self, bits):
        """The sum that a row of bits tells."""
        total = {None: 0}
        for at, literal in enumerate(bits):
            if literal & 1:
                total[None] += 1 << at
                if literal != NO:
                    total[literal ^ 1] = total.get(literal ^ 1, 0) - (1 << at)
                else:
                    total[None] -= 1 << at
            elif literal == YES:
                total[None] += 1 << at
            else:
                total[literal] = total.get(literal, 0) + (1 << at)
        return self.sum_of([(1, total)])

    def bits_of(self, word):
        """The figures of a sum in twos."""
        key = tuple(sorted([(-1 if one is None else one, factor) for one, factor in word.items()]))
        if key not in self.made:
            self.made[key] = added(self.circuit, columns_of(word, self.wide), self.wide)
        return list(self.made[key])


def columns_of(word, wide):
    """For each figure the literals that are added there; a factor is parted into few twos, taken or given."""
    columns = [[] for _ in range(wide)]
    constant = word[None]
    for literal in sorted([one for one in word if one is not None]):
        factor = word[literal]
        at = 0
        while factor and at < wide:
            if factor & 1 == 0:
                pass
            elif factor & 3 == 3 and at < wide - 1:
                # less one here and one more above
                columns[at].append(literal ^ 1)
                constant -= 1 << at
                factor += 1
            else:
                columns[at].append(literal)
                factor -= 1
            factor = factor >> 1
            at += 1
    for at in range(wide):
        if constant >> at & 1:
            columns[at].append(YES)
    return columns


def added(circuit, columns, wide):
    """The figures of what stands in columns, all added up."""
    bits = []
    carried = []
    for at in range(wide):
        column = [*columns[at], *carried]
        carried = []
        while len(column) > 2:
            one, two, three = column[:3]
            column = [circuit.odd(one, two, three), *column[3:]]
            carried.append(circuit.two_of(one, two, three))
        if len(column) == 2:
            carried.append(circuit.both(column[0], column[1]))
            column = [circuit.unlike(column[0], column[1])]
        bits.append(column[0] if column else NO)
    return bits


def is_below(circuit, one, other):
    """Whether one number is less than another one, told by rows of bits."""
    many = max(len(one), len(other))
    held = NO
    for left, right in zip(one + [NO] * (many - len(one)), other + [NO] * (many - len(other))):
        held = circuit.two_of(left ^ 1, right, held)
    return held


def are_same(circuit, one, other):
    """Whether two numbers are equal, told by rows of bits."""
    many = max(len(one), len(other))
    pairs = zip(one + [NO] * (many - len(one)), other + [NO] * (many - len(other)))
    return circuit.none_of([circuit.unlike(left, right) for left, right in pairs])


def plain_bits(number):
    """The row of bits of a number from 0 on."""
    return [YES if number >> at & 1 else NO for at in range(number.bit_length())]
