"""Plays of head codes on words."""

from tagblocks.headcodes import HANDED, REGISTERS, TOLD
from tagblocks.runs import compared_plainly, plain_sum, run_through


def made_of(word, sign, operand):
    """What a sign like << or & makes of a word."""
    if sign == "<<":
        return word << operand
    if sign == ">>":
        return word >> operand
    if sign == "&":
        return word & operand
    if sign == "&~":
        return word & ~operand
    return word | operand if sign == "|" else word ^ operand


class HeadMachine:
    """The words of a play of a head code."""

    def __init__(self, code, wide, handed):
        self.top = (1 << wide) - 1
        self.worths = {name: 0 for name in (*REGISTERS, TOLD[code.kind])}
        for name, worth in zip(HANDED[code.kind], handed):
            self.worths[name] = worth

    def play_step(self, step):
        """Plays a line that sets something."""
        word = plain_sum(step[2], self.worths) & self.top
        if step[3] is not None:
            word = made_of(word, step[3], step[4]) & self.top
        self.worths[step[1]] = word
        return True

    def part_holds(self, part):
        """Whether a part of a test holds."""
        return compared_plainly(part, self.worths)


def play_head(code, wide, handed):
    """What a head code tells of a tuple of words that are handed to it, or None if it refuses."""
    machine = HeadMachine(code, wide, handed)
    run = run_through(code.outline, machine)
    return None if run.ended == "refused" else machine.worths[TOLD[code.kind]]
