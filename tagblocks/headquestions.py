"""What can be asked about heads and roundings at one size or length, known or open, and where it is so first."""

from tagblocks.forms import negated, shifted
from tagblocks.headplay import play_head, rest_of
from tagblocks.opennumbers import OpenNumbers
from tagblocks.plainnumbers import PlainNumbers
from tagblocks.solving import can_hold

HEAD_PROMISES = ("inside", "size", "used", "ahead", "marks")
ROUND_PROMISES = ("even", "enough", "tight", "full")
FLAGS = ((0, 0), (0, 1), (1, 0), (1, 1))
# The flags behind a change; None is what was so.
NEW_FLAGS = {"use": (1, None), "free": (0, None), "meet": (None, 1), "part": (None, 0)}


class HeadBreak:
    """Whether heads break a promise at a size, with two flags; of marks just what the code of one kind owes."""

    def __init__(self, heads, promise, used, ahead, kind=None):
        self.heads = heads
        self.promise = promise
        self.used = used
        self.ahead = ahead
        self.kind = kind

    def made(self, size, used, ahead, numbers):
        """The word that is made."""
        handed = (size, numbers.constant(used), numbers.constant(ahead))
        return play_head(self.heads.codes[0], self.heads.rules.wide, handed, numbers)

    def read_by(self, kind, word, numbers):
        """What a code tells of a word."""
        return play_head(self.heads.code_for(kind), self.heads.rules.wide, (word,), numbers)

    def is_so(self, size, numbers):
        """Whether the promise is broken."""
        word = self.made(size, self.used, self.ahead, numbers)
        if self.promise == "inside":
            return not numbers.below(word, numbers.constant(1 << self.heads.rules.field))
        if self.promise == "marks":
            used, ahead = NEW_FLAGS[self.kind]
            used = self.used if used is None else used
            ahead = self.ahead if ahead is None else ahead
            return not numbers.same(self.read_by(self.kind, word, numbers), self.made(size, used, ahead, numbers))
        owed = {"size": size, "used": numbers.constant(self.used), "ahead": numbers.constant(self.ahead)}
        return not numbers.same(self.read_by(self.promise, word, numbers), owed[self.promise])


class NoneIsSo:
    """Whether none of some questions is so."""

    def __init__(self, questions):
        self.questions = questions

    def is_so(self, number, numbers):
        """Whether none is so."""
        for question in self.questions:
            if question.is_so(number, numbers):
                return False
        return True


class RoundBreak:
    """Whether a rounding breaks a promise at a length."""

    def __init__(self, rounding, promise):
        self.rules = rounding.rules
        self.code = rounding.code
        self.promise = promise

    def is_so(self, n, numbers):
        """Whether the promise is broken."""
        told = play_head(self.code, self.rules.wide, (n,), numbers)
        wanted = numbers.plus(n, 1, numbers.constant(self.rules.over))
        if self.promise == "full":
            return told is None and not numbers.below(numbers.constant(self.rules.last_size()), wanted)
        if told is None:
            return False
        if self.promise == "enough":
            return numbers.below(told, wanted)
        if self.promise == "even":
            return not self.is_in_use(told, numbers)
        if not self.is_in_use(told, numbers) or numbers.below(told, wanted):
            return False
        return self.is_loose(told, wanted, numbers)

    def is_in_use(self, told, numbers):
        """Whether a word is a size in use."""
        if numbers.below(told, numbers.constant(self.rules.least)):
            return False
        return numbers.same(rest_of(told, self.rules.unit.bit_length() - 1, numbers), numbers.constant(0))

    def is_loose(self, told, wanted, numbers):
        """Whether a size in use that is less than a told one would do."""
        lesser = numbers.plus(told, -1, numbers.constant(self.rules.unit))
        return not numbers.below(lesser, numbers.constant(self.rules.least)) and not numbers.below(lesser, wanted)


class RoundParting:
    """Whether two roundings do not do the same for a length."""

    def __init__(self, rounding, other):
        self.rounding = rounding
        self.other = other

    def is_so(self, n, numbers):
        """Whether one refuses alone, or they tell different sizes."""
        told = [play_head(one.code, one.rules.wide, (n,), numbers) for one in (self.rounding, self.other)]
        if told[0] is None or told[1] is None:
            return told[0] is not None or told[1] is not None
        return not numbers.same(told[0], told[1])


def least_number(rows, form, low):
    """The least number, not below a low one, that a form can be where rows hold, which can hold."""
    first = low
    reach = 1
    while not can_hold([*rows, shifted(negated(form), first)]):
        low = first + 1
        first = first + reach
        reach = 2 * reach
    while low < first:
        middle = (low + first) // 2
        if can_hold([*rows, shifted(negated(form), middle)]):
            first = middle
        else:
            low = middle + 1
    return low


def least_with(question, low, high, unit, solved):
    """The least multiple of unit from one of them to another one at which a question is so, or None."""
    if low > high:
        return None
    if question.is_so(low, PlainNumbers()):
        return low
    best = None
    whole = {0: 0, 1: unit}
    waiting = [([], [shifted(whole, -low), shifted(negated(whole), high)])]
    while waiting:
        trail, rows = waiting.pop()
        nearer = [] if best is None else [shifted(negated(whole), best - 1)]
        numbers = OpenNumbers({1: 0}, {1: high // unit}, trail, rows + nearer, solved)
        if question.is_so(whole, numbers) and not numbers.is_lost and numbers.can_be([]):
            best = least_number(numbers.whole_rows([]), numbers.opened(whole), low)
        waiting.extend(numbers.waiting)
    return best
