"""Circuits: truths made of truths by gates, each gate once; and words of such truths, the least one ahead.

Truth 0 always holds, so that the literals 0 and 1 are yes and no. A gate is told to the clauses only when something
that is asked about needs it.
"""

from tagblocks.clauses import Clauses

YES = 0
NO = 1


class Circuit:
    """Gates by what they are made of, and the clauses in which those stand that were needed so far."""

    def __init__(self):
        self.clauses = Clauses()
        self.clauses.new_truth()
        self.clauses.add([YES])
        self.known = {}
        self.waiting = {}

    def open_truth(self):
        """A literal of a truth that is made of nothing."""
        return 2 * self.clauses.new_truth()

    def gate(self, key):
        """The literal of a gate; the sort and the parts stand in its key."""
        if key not in self.known:
            self.known[key] = self.open_truth()
            self.waiting[self.known[key] >> 1] = key
        return self.known[key]

    def both(self, one, other):
        """Whether two literals hold."""
        if one == NO or other == NO or one == other ^ 1:
            return NO
        if one == YES or one == other:
            return other
        if other == YES:
            return one
        return self.gate(("both", min(one, other), max(one, other)))

    def either(self, one, other):
        """Whether one of two literals holds."""
        return self.both(one ^ 1, other ^ 1) ^ 1

    def all_of(self, literals):
        """Whether all of some literals hold."""
        held = YES
        for literal in literals:
            held = self.both(held, literal)
        return held

    def any_of(self, literals):
        """Whether one of some literals holds at least."""
        return self.none_of(literals) ^ 1

    def none_of(self, literals):
        """Whether none of some literals holds."""
        return self.all_of([literal ^ 1 for literal in literals])

    def unlike(self, one, other):
        """Whether just one of two literals holds."""
        turned = (one & 1) ^ (other & 1)
        one, other = min(one, other) & -2, max(one, other) & -2
        if one > other:
            one, other = other, one
        if one == YES:
            return other ^ 1 ^ turned
        if one == other:
            return NO ^ turned
        return self.gate(("unlike", one, other)) ^ turned

    def odd(self, one, two, three):
        """Whether one or all of three literals hold."""
        turned = (one & 1) ^ (two & 1) ^ (three & 1)
        parts = sorted([one & -2, two & -2, three & -2])
        if parts[0] == YES or parts[0] == parts[1] or parts[1] == parts[2]:
            return self.unlike(self.unlike(parts[0], parts[1]), parts[2]) ^ turned
        return self.gate(("odd", *parts)) ^ turned

    def two_of(self, one, two, three):
        """Whether two of three literals hold."""
        parts = sorted([one, two, three])
        for at in range(3):
            first, rest = parts[at], [part for k, part in enumerate(parts) if k != at]
            if rest[0] == rest[1]:
                return rest[0]
            if rest[0] == rest[1] ^ 1:
                return first
        if parts[0] == YES:
            return self.either(parts[1], parts[2])
        if parts[0] == NO:
            return self.both(parts[1], parts[2])
        if parts[0] & 1:
            return self.gate(("two", parts[0] ^ 1, parts[1] ^ 1, parts[2] ^ 1)) ^ 1
        return self.gate(("two", *parts))

    def choice(self, test, one, other):
        """One literal if a test holds, otherwise another one."""
        if test == YES or one == other:
            return one
        if test == NO:
            return other
        if one >> 1 == test >> 1:
            one = YES if one == test else NO
        if other >> 1 == test >> 1:
            other = NO if other == test else YES
        if one in (YES, NO) or other in (YES, NO) or one == other ^ 1:
            return self.plain_choice(test, one, other)
        if test & 1:
            test, one, other = test ^ 1, other, one
        turned = one & 1
        return self.gate(("choice", test, one ^ turned, other ^ turned)) ^ turned

    def plain_choice(self, test, one, other):
        """A choice one side of which is known, or both sides of which are opposite."""
        if one == other ^ 1:
            return self.unlike(test, other)
        if one == YES:
            return self.either(test, other)
        if one == NO:
            return self.both(test ^ 1, other)
        return self.either(test ^ 1, one) if other == YES else self.both(test, one)

    def need(self, literal):
        """Tells the clauses of a gate and of all that it is made of."""
        stack = [literal >> 1]
        while stack:
            truth = stack.pop()
            key = self.waiting.pop(truth, None)
            if key is not None:
                for clause in clauses_of(key, 2 * truth):
                    self.clauses.add(clause)
                stack.extend([part >> 1 for part in key[1:]])


def clauses_of(key, told):
    """The clauses of a gate that is told by a literal."""
    sort, one, two = key[0], key[1], key[2]
    if sort == "both":
        return [[told ^ 1, one], [told ^ 1, two], [told, one ^ 1, two ^ 1]]
    if sort == "unlike":
        return [[told ^ 1, one, two], [told ^ 1, one ^ 1, two ^ 1], [told, one ^ 1, two], [told, one, two ^ 1]]
    three = key[3]
    if sort == "two":
        return [[told ^ flip, one ^ 1 ^ flip, two ^ 1 ^ flip] for flip in (0, 1)] + [
            [told ^ flip, one ^ 1 ^ flip, three ^ 1 ^ flip] for flip in (0, 1)] + [
            [told ^ flip, two ^ 1 ^ flip, three ^ 1 ^ flip] for flip in (0, 1)]
    if sort == "choice":
        return [[one ^ 1, two ^ 1, told], [one ^ 1, two, told ^ 1], [one, three ^ 1, told], [one, three, told ^ 1],
                [two ^ 1, three ^ 1, told], [two, three, told ^ 1]]
    flips = [(0, 0), (0, 1), (1, 0), (1, 1)]
    return [[told ^ first ^ second ^ last ^ 1, one ^ first, two ^ second, three ^ last] for first, second in flips
            for last in (0, 1)]
