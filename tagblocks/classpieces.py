"""Class codes on all sizes and lengths: pieces of numbers on which a play ends alike and tells the same bin.

On numbers with one trace the bin never falls, so the ends of pieces are found by halving.
"""

from tagblocks.binplay import ClassMachine


class Piece:
    """Numbers from low to high on which plays end alike; number is the bin, None if no bin is told."""

    def __init__(self, low, high, ended, number, is_looking):
        self.low = low
        self.high = high
        self.ended = ended
        self.number = number
        self.is_looking = is_looking


class Asked:
    """A class code, played on the multiples of a unit."""

    def __init__(self, code, rules, unit):
        self.code = code
        self.rules = rules
        self.unit = unit

    def play(self, many):
        """The play on so many units."""
        return ClassMachine(self.code, self.rules, many * self.unit)

    def trace_at(self, many):
        """The trace of the play on so many units."""
        return self.play(many).trace

    def clipped_bin(self, many):
        """The bin on so many units; -1 for all below 0, and one more than the last one for all above it."""
        return max(-1, min(self.rules.bins, self.play(many).worths["bin"]))


def last_alike(worth_of, low, high, guess):
    """The last number up to high with the worth of low, where those with it are side by side; guess may be near it."""
    worth = worth_of(low)
    reach = 1
    guess = min(guess, high)
    if low < guess and worth_of(guess) == worth:
        low = guess
        if guess == high or worth_of(guess + 1) != worth:
            return guess
    while low + reach <= high and worth_of(low + reach) == worth:
        low = low + reach
        reach = 2 * reach
    high = min(high, low + reach - 1)
    while low < high:
        middle = (low + high + 1) // 2
        if worth_of(middle) == worth:
            low = middle
        else:
            high = middle - 1
    return low


def pieces_of(asked, low, high):
    """The pieces from one number of units to another one."""
    pieces = []
    guess = low
    while low <= high:
        machine = asked.play(low)
        last = last_alike(asked.trace_at, low, high, guess)
        if machine.ended == "done":
            pieces = pieces + done_pieces(asked, low, last, machine.is_looking)
        else:
            pieces.append(Piece(low, last, machine.ended, None, False))
        # Numbers with so many bits are twice as many as those with one bit less.
        guess = last + 2 * (last - low + 1)
        low = last + 1
    return pieces


def done_pieces(asked, low, high, is_looking):
    """The pieces of numbers with one trace whose plays come to their end."""
    pieces = []
    guess = low
    while low <= high:
        number = asked.clipped_bin(low)
        last = last_alike(asked.clipped_bin, low, high, guess)
        is_bin = 0 <= number < asked.rules.bins
        pieces.append(Piece(low, last, "done" if is_bin else "beyond", number if is_bin else None,
                            is_looking and is_bin))
        guess = 2 * last - low + 1
        low = last + 1
    return pieces
