"""Plays of head codes, on numbers that are known or open."""

from tagblocks.headcodes import HANDED, REGISTERS, TOLD
from tagblocks.runs import compared, run_through, sum_of


def rest_of(number, power, numbers):
    """The rest of a number by 2 ** power."""
    return numbers.plus(number, -(1 << power), numbers.quotient(number, power))


def kept_in(number, run, numbers):
    """The twos of a number that stand in a run."""
    low = (run & -run).bit_length() - 1
    moved = numbers.quotient(number, low)
    inside = rest_of(moved, run.bit_length() - low, numbers)
    return numbers.plus(numbers.constant(0), 1 << low, inside)


def made_of(word, sign, operand, numbers):
    """What a sign like << or & makes of a word."""
    if sign == "<<":
        return numbers.plus(numbers.constant(0), 1 << operand, word)
    if sign == ">>":
        return numbers.quotient(word, operand)
    kept = kept_in(word, operand, numbers)
    if sign == "&":
        return kept
    dropped = numbers.plus(word, -1, kept)
    if sign == "&~":
        return dropped
    full = numbers.plus(dropped, 1, numbers.constant(operand))
    if sign == "|":
        return full
    return numbers.plus(full, -1, kept)


class HeadMachine:
    """The words of a play of a head code."""

    def __init__(self, code, wide, handed, numbers):
        self.wide = wide
        self.numbers = numbers
        self.worths = {name: numbers.constant(0) for name in (*REGISTERS, TOLD[code.kind])}
        for name, worth in zip(HANDED[code.kind], handed):
            self.worths[name] = worth

    def play_step(self, step):
        """Plays a line that sets something."""
        word = rest_of(sum_of(step[2], self.worths, self.numbers), self.wide, self.numbers)
        if step[3] is not None:
            made = made_of(word, step[3], step[4], self.numbers)
            word = rest_of(made, self.wide, self.numbers)
        self.worths[step[1]] = word
        return True

    def part_holds(self, part):
        """Whether a part of a test holds."""
        return compared(part, self.worths, self.numbers)


def play_head(code, wide, handed, numbers):
    """What a head code tells of a tuple of words that are handed to it, or None if it refuses."""
    machine = HeadMachine(code, wide, handed, numbers)
    run = run_through(code.outline, machine)
    if run.ended == "refused":
        return None
    return machine.worths[TOLD[code.kind]]
