"""Which ways of a play are at a line, told by a literal, where all ways are played at once."""

from tagblocks.circuits import NO, YES


class BitWays:
    """What plays on open bits have in common.

    here tells whether the play is at this line; nest has for each open block whether the play was at its if but has
    not come to its other side yet, and whether it came through its first side.
    """

    def __init__(self, circuit):
        self.circuit = circuit
        self.here = YES
        self.nest = []

    def enter_if(self, held):
        """Goes into a block whose test holds where a literal does."""
        self.nest.append((self.circuit.both(self.here, held ^ 1), NO))
        self.here = self.circuit.both(self.here, held)

    def enter_else(self):
        """Goes to the other side of a block."""
        other, _ = self.nest.pop()
        self.nest.append((NO, self.here))
        self.here = other

    def leave_block(self):
        """Goes on behind a block."""
        other, behind = self.nest.pop()
        self.here = self.circuit.either(self.here, self.circuit.either(other, behind))
