"""What can be asked about map codes of which a play could go very many ways: all bins and bits in one circuit."""

from tagblocks.bitnumbers import BitNumbers
from tagblocks.circuits import Circuit
from tagblocks.mapcircuits import MapBits, word_rows


class MapGoals:
    """The play of a code for all bins and bits, and the literals that tell where its promises are broken."""

    def __init__(self, maps, kind):
        self.rules = maps.rules
        self.kind = kind
        self.circuit = Circuit()
        self.numbers = BitNumbers(self.circuit)
        self.bins = [self.circuit.open_truth() for _ in range(self.rules.bins)]
        self.bits = [self.circuit.open_truth() for _ in range((self.rules.bins - 1).bit_length())]
        self.handed = self.numbers.of_bits(self.bits)
        self.here = [self.numbers.is_worth(self.handed, at) for at in range(self.rules.bins)]
        self.numbers.hold(self.numbers.at_least(self.handed, self.rules.bins) ^ 1)
        if kind != "find":
            own = self.circuit.any_of([self.circuit.both(*pair) for pair in zip(self.here, self.bins)])
            self.numbers.hold(own if kind == "clear" else own ^ 1)
        self.whole = MapBits(maps.code_for(kind), self.rules, self.numbers, self.handed, self.bins)
        self.goals = {}

    def goal_for(self, promise):
        """Whether a promise is broken."""
        if promise not in self.goals:
            self.goals[promise] = self.goal_of(promise)
            self.circuit.need(self.goals[promise])
        return self.goals[promise]

    def goal_of(self, promise):
        """The literal that tells whether a promise is broken."""
        if promise == "inside":
            return self.whole.beyond
        if promise == "kept":
            return self.not_kept()
        return self.untrue() if promise == "true" else self.not_least()

    def set_from_here(self):
        """For each bin whether it is set, and not below the one that is handed."""
        return [self.circuit.both(literal, self.numbers.at_least(self.handed, at + 1) ^ 1)
                for at, literal in enumerate(self.bins)]

    def untrue(self):
        """Whether find tells a bin that is none from here on that is set, or none though there is one."""
        found = self.set_from_here()
        told = self.circuit.any_of([self.circuit.both(literal, self.numbers.is_worth(self.whole.told, at))
                                    for at, literal in enumerate(found)])
        missed = self.circuit.both(self.whole.refused, self.circuit.any_of(found))
        return self.circuit.either(missed, self.circuit.both(self.whole.done, told ^ 1))

    def not_least(self):
        """Whether find passes over a bin that is set."""
        passed = [self.circuit.both(literal, self.numbers.at_least(self.whole.told, at + 1))
                  for at, literal in enumerate(self.set_from_here())]
        return self.circuit.both(self.whole.done, self.circuit.any_of(passed))

    def not_kept(self):
        """Whether mark or clear leaves other words or another roof than what is owed."""
        if self.kind == "mark":
            owed = [self.circuit.either(*pair) for pair in zip(self.here, self.bins)]
        else:
            owed = [self.circuit.both(test ^ 1, literal) for test, literal in zip(self.here, self.bins)]
        words = word_rows(self.rules, owed)
        pairs = [pair for one, other in zip(self.whole.words, words) for pair in zip(one, other)]
        pairs = pairs + list(zip(self.whole.roof, self.whole.roof_for(words)))
        unlike = self.circuit.any_of([self.circuit.unlike(one, other) for one, other in pairs])
        return self.circuit.both(self.whole.done, unlike)

    def words_at(self, promise, number):
        """Words with which a promise is broken at a bin, or None."""
        return self.words_for([self.goal_for(promise), *self.bits_of_bin(number)])

    def bits_of_bin(self, number):
        """The literals that tell that a bin is handed."""
        return [literal if number >> at & 1 else literal ^ 1 for at, literal in enumerate(self.bits)]

    def words_for(self, wanted):
        """Words with which some literals hold, or None."""
        clauses = self.circuit.clauses
        found = None
        if clauses.search(wanted):
            ones = [1 if clauses.worths[literal] > 0 else 0 for literal in self.bins]
            wide = self.rules.wide
            rows = [ones[at * wide:(at + 1) * wide] for at in range(self.rules.words)]
            found = tuple([sum([one << at for at, one in enumerate(row)]) for row in rows])
        clauses.cancel(0)
        return found

    def least_from(self, promise, number):
        """The least bin from one on at which a promise is broken, or None."""
        goal = self.goal_for(promise)
        above = self.numbers.at_least(self.handed, number)
        self.circuit.need(above)
        wanted = [goal, above]
        if self.words_for(wanted) is None:
            return None
        for literal in reversed(list(self.bits)):
            # The highest figures are decided first.
            wanted.append(literal ^ 1)
            if self.words_for(wanted) is None:
                wanted[-1] = literal
        return sum([1 << at for at, literal in enumerate(self.bits) if literal in wanted])
