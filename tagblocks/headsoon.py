"""Questions about heads and roundings, asked of plays on open numbers: quick for most codes, given up for some.

A play is made once for each way that its comparisons can come out; each way lets numbers for which some sums, without
rests, are compared. Where words are mixed with themselves, there are too many ways, or such that are hard to tell.
"""

from tagblocks.forms import negated, shifted
from tagblocks.headcodes import HANDED, REGISTERS, TOLD
from tagblocks.headquestions import FLAGS, HEAD_PROMISES, NEW_FLAGS, ROUND_PROMISES
from tagblocks.leasts import least_worth
from tagblocks.opennumbers import spread
from tagblocks.runs import compared, run_through, sum_of
from tagblocks.solving import SolvedSoon
from tagblocks.wordnumbers import WordNumbers

# So much is done for a question, and so many ways followed, until it is given up.
MOST_DONE = 4000
MOST_WAYS = 300


class WordMachine:
    """The words of a play of a head code, which are open numbers."""

    def __init__(self, code, wide, handed, numbers):
        self.wide = wide
        self.numbers = numbers
        self.worths = {name: numbers.constant(0) for name in (*REGISTERS, TOLD[code.kind])}
        for name, worth in zip(HANDED[code.kind], handed):
            self.worths[name] = worth

    def rest_of(self, number, power):
        """The rest of a number by 2 ** power."""
        numbers = self.numbers
        return numbers.plus(number, -(1 << power), numbers.moved_down(number, power))

    def kept_in(self, number, run):
        """The twos of a number that stand in a run."""
        low = (run & -run).bit_length() - 1
        inside = self.rest_of(self.numbers.moved_down(number, low), run.bit_length() - low)
        return self.numbers.plus(self.numbers.constant(0), 1 << low, inside)

    def made_of(self, word, sign, operand):
        """What a sign like << or & makes of a word."""
        numbers = self.numbers
        if sign == "<<":
            return numbers.plus(numbers.constant(0), 1 << operand, word)
        if sign == ">>":
            return numbers.moved_down(word, operand)
        kept = self.kept_in(word, operand)
        if sign == "&":
            return kept
        dropped = numbers.plus(word, -1, kept)
        if sign == "&~":
            return dropped
        full = numbers.plus(dropped, 1, numbers.constant(operand))
        return full if sign == "|" else numbers.plus(full, -1, kept)

    def play_step(self, step):
        """Plays a line that sets something."""
        word = self.rest_of(sum_of(step[2], self.worths, self.numbers), self.wide)
        if step[3] is not None:
            word = self.rest_of(self.made_of(word, step[3], step[4]), self.wide)
        self.worths[step[1]] = word
        return True

    def part_holds(self, part):
        """Whether a part of a test holds."""
        return compared(part, self.worths, self.numbers)


def told_open(code, wide, handed, numbers):
    """What a head code tells of open words that are handed to it, or None if it refuses."""
    machine = WordMachine(code, wide, handed, numbers)
    run = run_through(code.outline, machine)
    return None if run.ended == "refused" else machine.worths[TOLD[code.kind]]


class HeadBreak:
    """Whether heads break a promise at a size, with two flags; of marks just what the code of one kind owes."""

    def __init__(self, heads, promise, flags, kind=None):
        self.heads = heads
        self.promise = promise
        self.flags = flags
        self.kind = kind

    def made_word(self, size, flags, numbers):
        """The word that is made."""
        handed = (size, numbers.constant(flags[0]), numbers.constant(flags[1]))
        return told_open(self.heads.codes[0], self.heads.rules.wide, handed, numbers)

    def told_word(self, kind, word, numbers):
        """What a code tells of a word."""
        return told_open(self.heads.code_for(kind), self.heads.rules.wide, (word,), numbers)

    def is_so(self, size, numbers):
        """Whether the promise is broken."""
        word = self.made_word(size, self.flags, numbers)
        if self.promise == "inside":
            return not numbers.below(word, numbers.constant(1 << self.heads.rules.field))
        if self.promise == "marks":
            flags = tuple([old if new is None else new for old, new in zip(self.flags, NEW_FLAGS[self.kind])])
            return not numbers.same(self.told_word(self.kind, word, numbers), self.made_word(size, flags, numbers))
        owed = size
        if self.promise != "size":
            owed = numbers.constant(self.flags[0] if self.promise == "used" else self.flags[1])
        return not numbers.same(self.told_word(self.promise, word, numbers), owed)


class HeadsRight:
    """Whether heads break no promise at a size."""

    def __init__(self, heads):
        self.questions = [question for promise in HEAD_PROMISES for question in head_breaks(heads, promise)]

    def is_so(self, size, numbers):
        """Whether no promise is broken."""
        for question in self.questions:
            if question.is_so(size, numbers):
                return False
        return True


def head_breaks(heads, promise):
    """The questions of which one is so where heads break a promise."""
    kinds = list(NEW_FLAGS) if promise == "marks" else [None]
    return [HeadBreak(heads, promise, flags, kind) for flags in FLAGS for kind in kinds]


class RoundBreak:
    """Whether a rounding breaks a promise at a length."""

    def __init__(self, rounding, promise):
        self.rules = rounding.rules
        self.code = rounding.code
        self.promise = promise

    def is_so(self, n, numbers):
        """Whether the promise is broken."""
        told = told_open(self.code, self.rules.wide, (n,), numbers)
        return self.breaks_promise(self.promise, n, told, numbers)

    def breaks_promise(self, promise, n, told, numbers):
        """Whether what is told, or None, breaks a promise."""
        wanted = numbers.plus(n, 1, numbers.constant(self.rules.over))
        if promise == "full":
            return told is None and not numbers.below(numbers.constant(self.rules.last_size()), wanted)
        if told is None:
            return False
        if promise == "enough":
            return numbers.below(told, wanted)
        if promise == "even":
            return not self.is_in_use(told, numbers)
        # What is not loose breaks nothing, whatever else it is.
        lesser = numbers.plus(told, -1, numbers.constant(self.rules.unit))
        if numbers.below(lesser, wanted) or numbers.below(lesser, numbers.constant(self.rules.least)):
            return False
        return self.is_in_use(told, numbers)

    def is_in_use(self, told, numbers):
        """Whether a word is a size in use."""
        if numbers.below(told, numbers.constant(self.rules.least)):
            return False
        power = self.rules.unit.bit_length() - 1
        rest = numbers.plus(told, -(1 << power), numbers.moved_down(told, power))
        return numbers.same(rest, numbers.constant(0))


class RoundRight(RoundBreak):
    """Whether a rounding breaks no promise at a length."""

    def __init__(self, rounding):
        super().__init__(rounding, None)

    def is_so(self, n, numbers):
        """Whether no promise is broken."""
        told = told_open(self.code, self.rules.wide, (n,), numbers)
        for promise in ROUND_PROMISES:
            if self.breaks_promise(promise, n, told, numbers):
                return False
        return True


class RoundParting:
    """Whether two roundings do not do the same for a length."""

    def __init__(self, rounding, other):
        self.rounding = rounding
        self.other = other

    def is_so(self, n, numbers):
        """Whether one refuses alone, or they tell different sizes."""
        told = [told_open(one.code, one.rules.wide, (n,), numbers) for one in (self.rounding, self.other)]
        if told[0] is None or told[1] is None:
            return told[0] is not None or told[1] is not None
        return not numbers.same(told[0], told[1])


def first_soon(questions, low, high, unit):
    """Whether it is told soon, and then the least multiple of unit from one to another with a question so, or None."""
    best = None
    for question in questions:
        is_told, found = least_soon(question, low, high if best is None else best - unit, unit)
        if not is_told:
            return False, None
        best = best if found is None else found
    return True, best


def least_soon(question, low, high, unit):
    """Whether it is told soon, and then the least multiple of unit from one to another where a question is so."""
    if low > high:
        return True, None
    solved = SolvedSoon(MOST_DONE)
    if question.is_so({0: low}, WordNumbers({}, {}, [], [], solved)):
        return True, low
    best = None
    whole = {0: 0, 1: unit}
    waiting = [([], [shifted(whole, -low)])]
    points = [{1: number} for number in spread(low // unit, high // unit, 1 << 12)]
    many = 0
    while waiting and many < MOST_WAYS and not solved.is_given_up:
        many += 1
        trail, rows = waiting.pop()
        last = high if best is None else best - unit
        near = [] if best is None else [shifted(negated(whole), last)]
        numbers = WordNumbers({1: 0}, {1: high // unit}, trail, rows + near, solved, points)
        if question.is_so(whole, numbers) and not numbers.is_lost:
            found = least_worth(numbers.needed_rows([whole]), numbers.opened(whole), low, last, solved)
            best = best if found is None else found
        waiting.extend(numbers.waiting)
    return not waiting and not solved.is_given_up, best
