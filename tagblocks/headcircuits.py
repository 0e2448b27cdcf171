"""Plays of head codes on words of open bits: all ways at once, a choice for each word that is set on some way."""

from tagblocks.bitways import BitWays
from tagblocks.bitwords import are_same, is_below, plain_bits
from tagblocks.circuits import NO, YES
from tagblocks.headcodes import HANDED, REGISTERS, TOLD


class BitPlay(BitWays):
    """The words of a play, each a sum of bits, and on which ways it was refused."""

    def __init__(self, code, handed, words):
        super().__init__(words.circuit)
        self.code = code
        self.words = words
        self.refused = NO
        self.worths = {name: {None: 0} for name in (*REGISTERS, TOLD[code.kind])}
        for name, worth in zip(HANDED[code.kind], handed):
            self.worths[name] = worth
        for step in code.outline.steps:
            self.play(step)

    def told_word(self):
        """The word that is told."""
        return self.worths[TOLD[self.code.kind]]

    def play(self, step):
        """Plays a line on all ways that come to it."""
        if step[0] == "set":
            self.set_word(step)
        elif step[0] == "if":
            self.enter_if(self.test_held(step[1]))
        elif step[0] == "else":
            self.enter_else()
        elif step[0] == "end":
            self.leave_block()
        else:
            if step[0] == "no":
                self.refused = self.circuit.either(self.refused, self.here)
            self.here = NO

    def set_word(self, step):
        """Plays a line that sets a word."""
        if self.here == NO:
            return
        word = self.words.sum_of([(sign, self.worth_of(term)) for sign, term in step[2]])
        if step[3] is not None:
            word = self.made_of(word, step[3], step[4])
        if self.here != YES and word != self.worths[step[1]]:
            pairs = zip(self.words.bits_of(word), self.words.bits_of(self.worths[step[1]]))
            word = self.words.of_bits([self.circuit.choice(self.here, one, other) for one, other in pairs])
        self.worths[step[1]] = word

    def made_of(self, word, sign, operand):
        """What a sign like << or & makes of a word."""
        if sign == "<<":
            return self.words.sum_of([(1 << operand, word)])
        bits = self.words.bits_of(word)
        if sign == ">>":
            return self.words.of_bits(bits[operand:])
        ones = [operand >> at & 1 for at in range(len(bits))]
        if sign == "&":
            bits = [bit if one else NO for bit, one in zip(bits, ones)]
        elif sign == "&~":
            bits = [NO if one else bit for bit, one in zip(bits, ones)]
        elif sign == "|":
            bits = [YES if one else bit for bit, one in zip(bits, ones)]
        else:
            bits = [bit ^ one for bit, one in zip(bits, ones)]
        return self.words.of_bits(bits)

    def worth_of(self, term):
        """The sum that a name or number of a sum stands for."""
        return self.worths[term] if isinstance(term, str) else {None: term}

    def bits_for(self, term):
        """The bits of what is compared: a number counts as it stands."""
        return self.words.bits_of(self.worths[term]) if isinstance(term, str) else plain_bits(term)

    def test_held(self, test):
        """Whether a test holds."""
        held = YES
        for wanted, part in test:
            one, other = self.bits_for(part[1]), self.bits_for(part[2])
            if part[0] == "is":
                found = are_same(self.circuit, one, other)
            elif part[0] == "<":
                found = is_below(self.circuit, one, other)
            else:
                found = is_below(self.circuit, other, one) ^ 1
            held = self.circuit.both(held, found if wanted else found ^ 1)
        return held
