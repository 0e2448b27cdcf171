"""Systems decided over the bits of their names: for rows with great factors that hold few numbers or none."""

from tagblocks.bitwords import BitWords, is_below, plain_bits
from tagblocks.circuits import Circuit
from tagblocks.reducing import ranges_of


class BitSystem:
    """The rows of a table over bits: each name is its least number and a number told by bits."""

    def __init__(self, table, ranges):
        self.circuit = Circuit()
        most = 1
        for key, added in table.items():
            most = most + abs(added) + sum([abs(factor) * max(abs(ranges[name][0]), abs(ranges[name][1]))
                                            for name, factor in key])
        # Sums of all rows keep their signs in words that are so wide.
        self.words = BitWords(most.bit_length() + 2, self.circuit)
        self.names = {}
        for name, (low, high) in ranges.items():
            bits = self.words.open_bits((high - low).bit_length())
            self.names[name] = self.words.sum_of([(1, self.words.of_bits(bits)), (1, {None: low})])
            self.keep_below(bits, high - low)
        for key, added in table.items():
            self.add_row(key, added, table)

    def hold(self, literal):
        """Lets a literal hold."""
        self.circuit.need(literal)
        self.circuit.clauses.add([literal])

    def keep_below(self, bits, high):
        """Lets a number that bits tell be no more than another one."""
        self.hold(is_below(self.circuit, plain_bits(high), bits) ^ 1)

    def add_row(self, key, added, table):
        """Lets a row hold; of two rows with opposite factors the first one tells of both."""
        other = tuple([(name, -factor) for name, factor in key])
        if other in table and key < other:
            return
        parts = [(factor, self.names[name]) for name, factor in key]
        bits = self.words.bits_of(self.words.sum_of([*parts, (1, {None: added})]))
        if other in table:
            self.keep_below(bits, added + table[other])
        else:
            self.hold(bits[-1] ^ 1)

    def can_hold(self):
        """Whether there are bits with which all rows hold."""
        return self.circuit.clauses.search([])


def bits_can_hold(table):
    """Whether the rows of a table can hold; None if some name has no end that is found quickly."""
    ranges = ranges_of(table)
    if ranges is None:
        return None
    if [1 for low, high in ranges.values() if high < low]:
        return False
    return BitSystem(table, ranges).can_hold()
