"""Plays of map codes on open bits for an open bin: all ways at once, a choice for what is set on some way."""

from tagblocks.binlines import PATTERNS, REGISTERS
from tagblocks.bitways import BitWays
from tagblocks.circuits import NO, YES


class MapBits(BitWays):
    """A play of a map code for all bins and bits: patterns and words are rows of literals, registers numbers of bits.

    beyond, refused and done tell on which ways it has ended so.
    """

    def __init__(self, code, rules, numbers, handed, bins):
        super().__init__(numbers.circuit)
        self.rules = rules
        self.numbers = numbers
        self.kind = code.kind
        self.beyond = NO
        self.refused = NO
        self.done = NO
        self.told = {None: 0}
        self.worths = {name: {None: 0} for name in REGISTERS}
        self.worths["bin"] = handed
        self.patterns = {name: [NO] * rules.wide for name in PATTERNS}
        self.words = word_rows(rules, bins)
        self.roof = self.roof_for(self.words)
        for step in code.outline.steps:
            self.play(step)
        self.end_plainly()

    def roof_for(self, words):
        """The roof that is right for some words."""
        roof = [self.circuit.any_of(bits) for bits in words]
        return roof + [NO] * (self.rules.wide - len(roof))

    def play(self, step):
        """Plays a line on all ways that come to it."""
        if step[0] == "if":
            self.enter_if(self.test_held(step[1]))
        elif step[0] == "else":
            self.enter_else()
        elif step[0] == "end":
            self.leave_block()
        elif step[0] in ("tell", "none", "quit"):
            self.play_end(step)
        elif self.here != NO:
            self.play_step(step)

    def play_end(self, step):
        """Plays a line that ends the play."""
        if step[0] == "quit":
            self.end_plainly()
        elif step[0] == "none":
            self.refused = self.circuit.either(self.refused, self.here)
        else:
            self.told = self.numbers.choice(self.here, self.worth_of(step[1]), self.told)
            self.done = self.circuit.either(self.done, self.here)
        self.here = NO

    def end_plainly(self):
        """Ends the play where neither tell nor none was met."""
        if self.kind == "find":
            self.beyond = self.circuit.either(self.beyond, self.here)
        else:
            self.done = self.circuit.either(self.done, self.here)
        self.here = NO

    def keep_on(self, literal):
        """Lets only those ways go on on which a literal holds; the others are beyond."""
        self.beyond = self.circuit.either(self.beyond, self.circuit.both(self.here, literal ^ 1))
        self.here = self.circuit.both(self.here, literal)

    def worth_of(self, term):
        """The number that a name or number stands for."""
        return self.worths[term] if isinstance(term, str) else {None: term}

    def reckoned(self, step):
        """What a register is set to."""
        total = {None: 0}
        for sign, term in step[2]:
            total = self.numbers.plus(total, sign, self.worth_of(term))
        if step[0] == "times":
            return self.numbers.plus({None: 0}, step[3], total)
        if step[0] == "divided":
            return self.numbers.quotient(total, step[3])
        return self.numbers.rest_of(total, step[3]) if step[0] == "rest" else total

    def set_name(self, name, number):
        """Sets a register on the ways that are here."""
        self.worths[name] = self.numbers.choice(self.here, number, self.worths[name])

    def set_bits(self, test, bits, old):
        """A row of bits where a test holds, otherwise another one."""
        return [self.circuit.choice(test, one, other) for one, other in zip(bits, old)]

    def play_step(self, step):
        """Plays a line that sets something."""
        if step[0] in ("set", "times", "divided", "rest"):
            self.set_name(step[1], self.reckoned(step))
        elif step[0] == "first":
            bits = self.patterns[step[2]]
            self.keep_on(self.circuit.any_of(bits))
            self.set_name(step[1], self.first_of(bits))
        elif step[0] == "word":
            self.read_word(step)
        elif step[0] == "write word":
            self.write_word(step)
        elif step[0] in ("from", "with", "without"):
            self.change_pattern(step)
        elif step[0] == "write roof":
            self.roof = self.set_bits(self.here, self.patterns[step[1]], self.roof)
        else:
            bits = self.roof if step[0] == "roof" else self.patterns[step[2]]
            self.patterns[step[1]] = self.set_bits(self.here, bits, self.patterns[step[1]])

    def first_of(self, bits):
        """The number of the least bit that is set."""
        ahead = NO
        firsts = []
        for literal in bits:
            firsts.append(self.circuit.both(literal, ahead ^ 1))
            ahead = self.circuit.either(ahead, literal)
        figures = range((len(bits) - 1).bit_length())
        return self.numbers.of_bits([self.circuit.any_of([one for at, one in enumerate(firsts) if at >> figure & 1])
                                     for figure in figures])

    def which_of(self, term, many):
        """For each number from 0 on, so many of them, whether a term is it; ways with another one are beyond."""
        number = self.worth_of(term)
        found = [self.numbers.is_worth(number, at) for at in range(many)]
        inside = self.circuit.both(self.numbers.at_least(number, 0), self.numbers.at_least(number, many) ^ 1)
        self.keep_on(inside)
        return found

    def read_word(self, step):
        """Plays a line that reads a word of the map."""
        found = self.which_of(step[2], self.rules.words)
        bits = [self.circuit.any_of([self.circuit.both(test, word[at]) for test, word in zip(found, self.words)])
                for at in range(self.rules.wide)]
        self.patterns[step[1]] = self.set_bits(self.here, bits, self.patterns[step[1]])

    def write_word(self, step):
        """Plays a line that writes a word of the map."""
        found = self.which_of(step[2], self.rules.words)
        bits = self.patterns[step[1]]
        self.words = [self.set_bits(self.circuit.both(self.here, test), bits, word)
                      for test, word in zip(found, self.words)]

    def change_pattern(self, step):
        """Plays a line with from, with or without."""
        found = self.which_of(step[2], self.rules.wide)
        bits = self.patterns[step[1]]
        if step[0] == "from":
            changed = []
            reached = NO
            for test, literal in zip(found, bits):
                reached = self.circuit.either(reached, test)
                changed.append(self.circuit.both(reached, literal))
        elif step[0] == "with":
            changed = [self.circuit.either(test, literal) for test, literal in zip(found, bits)]
        else:
            changed = [self.circuit.both(test ^ 1, literal) for test, literal in zip(found, bits)]
        self.patterns[step[1]] = self.set_bits(self.here, changed, bits)

    def test_held(self, test):
        """Whether a test holds."""
        held = YES
        for wanted, part in test:
            if part[0] == "empty":
                found = self.circuit.none_of(self.patterns[part[1]])
            else:
                one, other = self.worth_of(part[1]), self.worth_of(part[2])
                if part[0] == "is":
                    found = self.numbers.same(one, other)
                else:
                    found = self.numbers.below(one, other) if part[0] == "<" else self.numbers.below(other, one) ^ 1
            held = self.circuit.both(held, found if wanted else found ^ 1)
        return held


def word_rows(rules, bins):
    """The bits of the bins parted into words; bits that belong to no bin are not set."""
    whole = list(bins) + [NO] * (rules.words * rules.wide - len(bins))
    return [whole[at * rules.wide:(at + 1) * rules.wide] for at in range(rules.words)]
