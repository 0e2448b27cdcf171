"""Verdicts on heads and roundings, for all sizes in use and all words."""

from tagblocks.bitwords import BitWords
from tagblocks.circuits import NO, YES, Circuit
from tagblocks.checks import check_number, check_promise
from tagblocks.errors import OtherRules
from tagblocks.headquestions import FLAGS, HEAD_PROMISES, ROUND_PROMISES
from tagblocks.headquestions import HeadGoals, RoundGoals, least_of, parted


class HeadAsked:
    """Heads with a size of open bits that is a multiple of unit."""

    def __init__(self, heads):
        self.rules = heads.rules
        self.words = BitWords(heads.rules.wide, Circuit())
        low = heads.rules.unit.bit_length() - 1
        self.bits = [NO] * low + self.words.open_bits(heads.rules.wide - low)
        self.goals = HeadGoals(heads, self.words, self.words.of_bits(self.bits))

    def least_size(self, goal, size):
        """The least size in use from one on where a goal holds, or None."""
        low = self.rules.next_in_use(size)
        return None if low is None else least_of(self.words, self.bits, goal, low, self.rules.last_size())


def least_told(numbers):
    """The least one of some numbers, of which some may be None; None if all are.

    Each promise is asked about by itself: what breaks one of them is found, or seen to be nowhere, much sooner than
    what breaks any of them.
    """
    return min([number for number in numbers if number is not None], default=None)


def head_break(heads, promise, size):
    """The least size in use from one on at which heads break a promise with some flags, or None."""
    check_promise(promise, HEAD_PROMISES)
    check_number(size)
    asked = HeadAsked(heads)
    return asked.least_size(asked.goals.breaks_somehow(promise), size)


def head_keeps(heads, promise):
    """Whether heads keep a promise."""
    return head_break(heads, promise, 0) is None


def head_kept(heads):
    """The promises that heads keep."""
    return tuple([promise for promise in HEAD_PROMISES if head_keeps(heads, promise)])


def head_wrong(heads, size):
    """The least size in use from one on at which heads are not right, or None."""
    check_number(size)
    return least_told([head_break(heads, promise, size) for promise in HEAD_PROMISES])


def head_right(heads, size):
    """The least size in use from one on at which heads are right, or None."""
    check_number(size)
    asked = HeadAsked(heads)
    return asked.least_size(asked.goals.wrong() ^ 1, size)


def head_case(heads, promise):
    """The least size, used and ahead, in this order, with which heads break a promise, or None."""
    size = head_break(heads, promise, 0)
    if size is None:
        return None
    # With a known size all gates are known, too.
    goals = HeadGoals(heads, BitWords(heads.rules.wide, Circuit()), {None: size})
    flags = [one for one in FLAGS if goals.breaks(promise, one) == YES]
    return (size, *flags[0])


class RoundAsked:
    """A rounding with a length of open bits."""

    def __init__(self, rounding):
        self.rounding = rounding
        self.words = BitWords(rounding.rules.wide, Circuit())
        self.bits = self.words.open_bits(rounding.rules.wide)
        self.n = self.words.of_bits(self.bits)

    def round_goals(self):
        """What tells where promises are broken."""
        return RoundGoals(self.rounding, self.words, self.n)

    def least_length(self, goal, n):
        """The least word from one on where a goal holds, or None."""
        last = (1 << self.rounding.rules.wide) - 1
        return None if n > last else least_of(self.words, self.bits, goal, n, last)


def round_break(rounding, promise, n):
    """The least length from one on at which a rounding breaks a promise, or None."""
    check_promise(promise, ROUND_PROMISES)
    check_number(n)
    asked = RoundAsked(rounding)
    return asked.least_length(asked.round_goals().breaks(promise), n)


def round_keeps(rounding, promise):
    """Whether a rounding keeps a promise."""
    return round_break(rounding, promise, 0) is None


def round_kept(rounding):
    """The promises that a rounding keeps."""
    return tuple([promise for promise in ROUND_PROMISES if round_keeps(rounding, promise)])


def round_wrong(rounding, n):
    """The least length from one on at which a rounding is not right, or None."""
    check_number(n)
    return least_told([round_break(rounding, promise, n) for promise in ROUND_PROMISES])


def round_right(rounding, n):
    """The least length from one on at which a rounding is right, or None."""
    check_number(n)
    asked = RoundAsked(rounding)
    return asked.least_length(asked.round_goals().right(), n)


def round_parting(rounding, other):
    """The least word for which two roundings do not do the same, or None."""
    if rounding.rules != other.rules:
        raise OtherRules("heads")
    asked = RoundAsked(rounding)
    return asked.least_length(parted(rounding, other, asked.words, asked.n), 0)


def round_alike(rounding, other):
    """Whether two roundings refuse for the same words and tell the same sizes."""
    return round_parting(rounding, other) is None
