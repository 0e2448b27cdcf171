"""Dividers, which divide by multiplying: at which numbers they are right, told for all numbers."""

from tagblocks.errors import BadNumber
from tagblocks.headrules import is_between

MOST_NUMBER = 10 ** 60
MOST_SHIFT = 400


def check_between(number, least, most):
    """Raises BadNumber for a value that is no integer from one to another one."""
    if not is_between(number, least, most):
        raise BadNumber(number)


def upward(number, by):
    """A number divided by one from 1 on and rounded up."""
    return -(-number // by)


class Divider:
    """What a divider divides by, and the multiplier, offset and shift by which it does."""

    def __init__(self, by, multiplier, offset, shift):
        check_between(by, 2, MOST_NUMBER)
        check_between(multiplier, 0, MOST_NUMBER)
        check_between(offset, 0, MOST_NUMBER)
        check_between(shift, 0, MOST_SHIFT)
        self.by = by
        self.multiplier = multiplier
        self.offset = offset
        self.shift = shift

    def __eq__(self, other):
        return (isinstance(other, Divider) and self.by == other.by and self.multiplier == other.multiplier
                and self.offset == other.offset and self.shift == other.shift)

    def quotient(self, x):
        """The number that is told for x."""
        check_between(x, 0, MOST_NUMBER)
        return (x * self.multiplier + self.offset) >> self.shift


class Rests:
    """What a divider does with x = by * q + r, told for each q by the rests r from 0 to by - 1.

    It tells too little for the rests below a number, and too much for those from another one on: the products of the
    multiplier and the rest are compared with sums of q, which grow by gain with each q.
    """

    def __init__(self, divider):
        self.by = divider.by
        self.times = divider.multiplier
        self.offset = divider.offset
        self.whole = 1 << divider.shift
        self.gain = self.whole - self.times * self.by

    def rests_below(self, product):
        """For how many rests the product is below a number."""
        if product <= 0:
            return 0
        return self.by if self.times == 0 else min(upward(product, self.times), self.by)

    def few(self, q):
        """For how many rests, the least ones, too little is told."""
        return self.rests_below(self.gain * q - self.offset)

    def fit(self, q):
        """For how many rests, the least ones, not too much is told."""
        return self.rests_below(self.gain * q - self.offset + self.whole)

    def wrong_from(self, q, r):
        """The least rest from one on that is wrong for q, or None."""
        if r < self.few(q):
            return r
        found = max(r, self.fit(q))
        return found if found < self.by else None

    def right_from(self, q, r):
        """The least rest from one on that is right for q, or None."""
        found = max(r, self.few(q))
        return found if found < self.fit(q) else None

    def wrong_q(self, q):
        """The least q from one on with a wrong rest, or None: at the first one, or where sums have grown or fallen."""
        if self.wrong_from(q, 0) is not None:
            return q
        if self.gain > 0:
            # Rest 0 is wrong as soon as gain * q is above offset.
            return max(q, self.offset // self.gain + 1)
        if self.gain < 0:
            # The last rest is wrong as soon as its product is not below what is not too much.
            return max(q, upward(self.whole - self.offset - self.times * (self.by - 1), -self.gain))
        return None

    def right_q(self, q):
        """The least q from one on with a right rest, or None."""
        if self.right_from(q, 0) is not None:
            return q
        if self.gain <= 0:
            # With a gain below 0 what is told is soon too much for all rests, and stays so.
            return None
        first = max(q, (self.offset - self.whole) // self.gain + 1)
        return first if self.right_from(first, 0) is not None else None

    def count_right(self, x):
        """How many numbers from 0 to x are right."""
        q, r = divmod(x, self.by)
        last = max(0, min(self.fit(q), r + 1) - min(self.few(q), r + 1))
        if self.times == 0:
            # One number is told for all, so only its q is right.
            told = self.offset // self.whole
            return last + (self.by if told < q else 0)
        return last + self.sum_below(self.whole - self.offset, q) - self.sum_below(-self.offset, q)

    def sum_below(self, start, many):
        """For q from 0 on, so many of them, all numbers of rests whose product is below start + gain * q, added up."""
        gain = self.gain
        if gain < 0:
            start, gain = start + gain * (many - 1), -gain
        # Rounded up: what is added is start + times - 1, divided.
        added = start + self.times - 1
        first = many if gain == 0 else max(0, min(many, upward(-added, gain)))
        most = self.times * self.by
        full = many if gain == 0 else max(first, min(many, upward(most - added, gain)))
        if gain == 0:
            return many * self.rests_below(start)
        return floor_sum(full - first, self.times, gain, added + gain * first) + (many - full) * self.by


def floor_sum(many, divisor, factor, added):
    """For k from 0 on, so many of them, (factor * k + added) // divisor, added up; all are from 0 on."""
    total = 0
    while many > 0:
        total += many * (many - 1) // 2 * (factor // divisor) + many * (added // divisor)
        factor, added = factor % divisor, added % divisor
        last = factor * many + added
        many, added = last // divisor, last % divisor
        factor, divisor = divisor, factor
    return total


def divider_right(divider, x):
    """Whether a divider is right at x."""
    return divider.quotient(x) == x // divider.by


def divider_wrong(divider, x):
    """The least number from x on at which a divider is wrong, or None."""
    check_between(x, 0, MOST_NUMBER)
    rests = Rests(divider)
    q, r = divmod(x, divider.by)
    found = rests.wrong_from(q, r)
    if found is None:
        q = rests.wrong_q(q + 1)
        found = None if q is None else rests.wrong_from(q, 0)
    return None if found is None else divider.by * q + found


def divider_next(divider, x):
    """The least number from x on at which a divider is right, or None."""
    check_between(x, 0, MOST_NUMBER)
    rests = Rests(divider)
    q, r = divmod(x, divider.by)
    found = rests.right_from(q, r)
    if found is None:
        q = rests.right_q(q + 1)
        found = None if q is None else rests.right_from(q, 0)
    return None if found is None else divider.by * q + found


def divider_many(divider, x):
    """At how many numbers from 0 to x a divider is wrong."""
    check_between(x, 0, MOST_NUMBER)
    return x + 1 - Rests(divider).count_right(x)


def times_between(by, top, shift):
    """The least and the greatest number of times that is right for all numbers from 0 to top, or None."""
    whole = 1 << shift
    least = upward(whole, by) if top >= by else 0
    # Of the numbers just below a multiple of by the first or the last one leaves the least room.
    tight = [top]
    if top >= by - 1:
        tight = [top, by - 1, (top + 1) // by * by - 1]
    greatest = min([(whole * (x // by + 1) - 1) // x for x in tight])
    return (least, greatest) if least <= greatest else None


def times_for(by, top, shift):
    """The least and the greatest number of times for which shifted products are right up to top, or None."""
    check_between(by, 2, MOST_NUMBER)
    check_between(top, 1, MOST_NUMBER)
    check_between(shift, 0, MOST_SHIFT)
    return times_between(by, top, shift)


def least_shift(by, top):
    """The least shift with which some number of times is right up to top."""
    check_between(by, 2, MOST_NUMBER)
    check_between(top, 1, MOST_NUMBER)
    shift = 0
    while times_between(by, top, shift) is None:
        shift += 1
    return shift
