"""Numbers of any size that open bits tell: sums of bits with factors, compared and divided in a circuit.

A number is a dict from literals to factors, None for what is added; the literals are those of truths themselves, not
of their opposites.
"""

from tagblocks.bitwords import BitWords, are_same, is_below, plain_bits
from tagblocks.circuits import NO, YES

# A quotient that can be one of few numbers is told by a comparison for each; else it is a new number.
FEW_QUOTIENTS = 24


class BitNumbers:
    """What is done with numbers in a circuit."""

    def __init__(self, circuit):
        self.circuit = circuit
        self.words = {}

    def of_literal(self, literal):
        """The number 1 where a literal holds, otherwise 0."""
        if literal in (YES, NO):
            return {None: 1 if literal == YES else 0}
        return {None: 1, literal ^ 1: -1} if literal & 1 else {None: 0, literal: 1}

    def of_bits(self, bits):
        """The number that a row of bits tells."""
        total = {None: 0}
        for at, literal in enumerate(bits):
            total = self.plus(total, 1 << at, self.of_literal(literal))
        return total

    def plus(self, one, times, other):
        """One number and another one, times a factor."""
        total = dict(one)
        for literal, factor in other.items():
            total[literal] = total.get(literal, 0) + times * factor
        return {literal: factor for literal, factor in total.items() if factor or literal is None}

    def ends(self, number):
        """Numbers between which a number surely lies."""
        factors = [factor for literal, factor in number.items() if literal is not None]
        low = number[None] + sum([factor for factor in factors if factor < 0])
        return low, number[None] + sum([factor for factor in factors if factor > 0])

    def choice(self, test, one, other):
        """One number where a test holds, otherwise another one."""
        total = {None: 0}
        for number, side in ((one, test), (other, test ^ 1)):
            rest = other if side == test else one
            for literal, factor in number.items():
                if rest.get(literal) == factor:
                    # Both have it; it is taken once.
                    part = {literal: factor, None: 0} if literal is not None else {None: factor}
                    times = 1 if side == test else 0
                else:
                    part = self.of_literal(side if literal is None else self.circuit.both(side, literal))
                    times = factor
                total = self.plus(total, times, part)
        return total

    def low_bits(self, number, many):
        """So many bits of a number, by the rest by two taken so often."""
        if many not in self.words:
            self.words[many] = BitWords(many, self.circuit)
        words = self.words[many]
        return words.bits_of(words.sum_of([(1, number)]))

    def bits_from(self, number, low):
        """The bits of a number less a low one that it is not below."""
        most = self.ends(number)[1] - low
        return self.low_bits(self.plus(number, -low, {None: 1}), most.bit_length())

    def at_least(self, number, worth):
        """Whether a number is not below a plain one."""
        low, high = self.ends(number)
        if worth <= low:
            return YES
        if worth > high:
            return NO
        return is_below(self.circuit, self.bits_from(number, low), plain_bits(worth - low)) ^ 1

    def is_worth(self, number, worth):
        """Whether a number is a plain one."""
        low, high = self.ends(number)
        if not low <= worth <= high:
            return NO
        return are_same(self.circuit, self.bits_from(number, low), plain_bits(worth - low))

    def below(self, one, other):
        """Whether a number is below another one."""
        return self.at_least(self.plus(other, -1, one), 1)

    def same(self, one, other):
        """Whether two numbers are equal."""
        return self.is_worth(self.plus(other, -1, one), 0)

    def quotient(self, number, by):
        """A number divided by a plain one and rounded down."""
        whole = {literal: factor // by for literal, factor in number.items() if factor // by or literal is None}
        part = self.plus(number, -by, whole)
        low, high = self.ends(part)
        first, last = low // by, high // by
        if by & (by - 1) == 0:
            bits = self.low_bits(part, high.bit_length())
            return self.plus(whole, 1, self.of_bits(bits[by.bit_length() - 1:]))
        if last - first <= FEW_QUOTIENTS:
            told = {None: first}
            for step in range(first + 1, last + 1):
                told = self.plus(told, 1, self.of_literal(self.at_least(part, by * step)))
        else:
            told = self.open_number(first, last)
            rest = self.plus(part, -by, told)
            self.hold(self.at_least(rest, 0))
            self.hold(self.at_least(rest, by) ^ 1)
        return self.plus(whole, 1, told)

    def rest_of(self, number, by):
        """What is left of a number when it is divided by a plain one."""
        left = self.plus(number, -by, self.quotient(number, by))
        return self.of_bits(self.low_bits(left, (by - 1).bit_length()))

    def open_number(self, low, high):
        """A number that may be any from one to another one."""
        bits = [self.circuit.open_truth() for _ in range((high - low).bit_length())]
        number = self.plus({None: low}, 1, self.of_bits(bits))
        self.hold(self.at_least(number, high + 1) ^ 1)
        return number

    def hold(self, literal):
        """Lets a literal hold."""
        self.circuit.need(literal)
        self.circuit.clauses.add([literal])
