"""Verdicts on heads and roundings, for all sizes in use and all words.

A question is asked of plays on open numbers first, which is quick for most codes, and where that is given up of open
bits, which is slower but is told of codes that mix their words, too.
"""

from tagblocks.bitwords import BitWords
from tagblocks.circuits import NO, YES, Circuit
from tagblocks.checks import check_number, check_promise
from tagblocks.errors import OtherRules
from tagblocks.headquestions import FLAGS, HEAD_PROMISES, ROUND_PROMISES
from tagblocks.headquestions import HeadGoals, RoundGoals, least_of, parted
from tagblocks.headsoon import HeadsRight, RoundBreak, RoundParting, RoundRight, first_soon, head_breaks


class HeadAsked:
    """Heads with a size of open bits that is a multiple of unit."""

    def __init__(self, heads):
        self.rules = heads.rules
        self.words = BitWords(heads.rules.wide, Circuit())
        low = heads.rules.unit.bit_length() - 1
        self.bits = [NO] * low + self.words.open_bits(heads.rules.wide - low)
        self.goals = HeadGoals(heads, self.words, self.words.of_bits(self.bits))

    def least_size(self, goal, low, high):
        """The least size in use from one to another one where a goal holds, or None."""
        return least_of(self.words, self.bits, goal, low, high)


def head_break(heads, promise, size):
    """The least size in use from one on at which heads break a promise with some flags, or None."""
    check_promise(promise, HEAD_PROMISES)
    check_number(size)
    low = heads.rules.next_in_use(size)
    return None if low is None else head_break_between(heads, promise, low, heads.rules.last_size())


def head_break_between(heads, promise, low, high):
    """The least size in use from one to another one at which heads break a promise with some flags, or None."""
    is_told, found = first_soon(head_breaks(heads, promise), low, high, heads.rules.unit)
    if is_told:
        return found
    asked = HeadAsked(heads)
    return asked.least_size(asked.goals.breaks_somehow(promise), low, high)


def head_keeps(heads, promise):
    """Whether heads keep a promise."""
    return head_break(heads, promise, 0) is None


def head_kept(heads):
    """The promises that heads keep."""
    return tuple([promise for promise in HEAD_PROMISES if head_keeps(heads, promise)])


def head_wrong(heads, size):
    """The least size in use from one on at which heads are not right, or None."""
    check_number(size)
    low = heads.rules.next_in_use(size)
    best = None
    if low is not None:
        for promise in HEAD_PROMISES:
            high = heads.rules.last_size() if best is None else best - heads.rules.unit
            found = head_break_between(heads, promise, low, high)
            best = best if found is None else found
    return best


def head_right(heads, size):
    """The least size in use from one on at which heads are right, or None."""
    check_number(size)
    low = heads.rules.next_in_use(size)
    if low is None:
        return None
    is_told, found = first_soon([HeadsRight(heads)], low, heads.rules.last_size(), heads.rules.unit)
    if is_told:
        return found
    asked = HeadAsked(heads)
    return asked.least_size(asked.goals.wrong() ^ 1, low, heads.rules.last_size())


def head_case(heads, promise):
    """The least size, used and ahead, in this order, with which heads break a promise, or None."""
    size = head_break(heads, promise, 0)
    if size is None:
        return None
    # With a known size all gates are known, too.
    goals = HeadGoals(heads, BitWords(heads.rules.wide, Circuit()), {None: size})
    flags = [one for one in FLAGS if goals.breaks(promise, one) == YES]
    return (size, *flags[0])


class RoundAsked:
    """A rounding with a length of open bits."""

    def __init__(self, rounding):
        self.rounding = rounding
        self.words = BitWords(rounding.rules.wide, Circuit())
        self.bits = self.words.open_bits(rounding.rules.wide)
        self.n = self.words.of_bits(self.bits)

    def round_goals(self):
        """What tells where promises are broken."""
        return RoundGoals(self.rounding, self.words, self.n)

    def least_length(self, goal, low, high):
        """The least word from one to another one where a goal holds, or None."""
        return least_of(self.words, self.bits, goal, low, high)


def last_word(rounding):
    """The greatest word."""
    return (1 << rounding.rules.wide) - 1


def round_break(rounding, promise, n):
    """The least length from one on at which a rounding breaks a promise, or None."""
    check_promise(promise, ROUND_PROMISES)
    check_number(n)
    return round_break_between(rounding, promise, n, last_word(rounding))


def round_break_between(rounding, promise, low, high):
    """The least length from one to another one at which a rounding breaks a promise, or None."""
    is_told, found = first_soon([RoundBreak(rounding, promise)], low, high, 1)
    if is_told:
        return found
    asked = RoundAsked(rounding)
    return asked.least_length(asked.round_goals().breaks(promise), low, high)


def round_keeps(rounding, promise):
    """Whether a rounding keeps a promise."""
    return round_break(rounding, promise, 0) is None


def round_kept(rounding):
    """The promises that a rounding keeps."""
    return tuple([promise for promise in ROUND_PROMISES if round_keeps(rounding, promise)])


def round_wrong(rounding, n):
    """The least length from one on at which a rounding is not right, or None."""
    check_number(n)
    best = None
    for promise in ROUND_PROMISES:
        high = last_word(rounding) if best is None else best - 1
        found = round_break_between(rounding, promise, n, high)
        best = best if found is None else found
    return best


def round_right(rounding, n):
    """The least length from one on at which a rounding is right, or None."""
    check_number(n)
    is_told, found = first_soon([RoundRight(rounding)], n, last_word(rounding), 1)
    if is_told:
        return found
    asked = RoundAsked(rounding)
    return asked.least_length(asked.round_goals().right(), n, last_word(rounding))


def round_parting(rounding, other):
    """The least word for which two roundings do not do the same, or None."""
    if rounding.rules != other.rules:
        raise OtherRules("heads")
    is_told, found = first_soon([RoundParting(rounding, other)], 0, last_word(rounding), 1)
    if is_told:
        return found
    asked = RoundAsked(rounding)
    return asked.least_length(parted(rounding, other, asked.words, asked.n), 0, last_word(rounding))


def round_alike(rounding, other):
    """Whether two roundings refuse for the same words and tell the same sizes."""
    return round_parting(rounding, other) is None
