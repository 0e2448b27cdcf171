"""Sets of whole numbers that are made of stretches: counted, and searched for what is in them and what is not."""

from math import gcd

from tagblocks.systems import inverse


def first_from(stretch, number):
    """The least number of a stretch from one on, or None."""
    low, high, step = stretch
    found = low if number <= low else number + (low - number) % step
    return found if high is None or found <= high else None


def meeting(one, other):
    """The stretch of the numbers that two stretches have in common, or None."""
    common = gcd(one[2], other[2])
    if (other[0] - one[0]) % common != 0:
        return None
    step = one[2] // common * other[2]
    share = other[2] // common
    times = (other[0] - one[0]) // common * inverse(one[2] // common, share) % share if share > 1 else 0
    highs = [high for high in (one[1], other[1]) if high is not None]
    high = min(highs) if highs else None
    low = first_from((one[0] + one[2] * times, None, step), min(one[0], other[0]))
    low = first_from((low % step, None, step), max(one[0], other[0]))
    return (low, high, step) if high is None or low <= high else None


def is_within(one, other):
    """Whether all numbers of a stretch are in another one."""
    if one[2] % other[2] != 0 or (one[0] - other[0]) % other[2] != 0 or one[0] < other[0]:
        return False
    return other[1] is None or (one[1] is not None and one[1] <= other[1])


def trimmed(stretch):
    """A stretch whose end is one of its numbers, and whose step is 1 if it has one number alone."""
    low, high, step = stretch
    if high is None:
        return stretch
    high = high - (high - low) % step
    return (low, high, step if high > low else 1)


def joined_plain(stretches):
    """Stretches with the step 1, joined where they touch."""
    joined = []
    for low, high, _ in sorted([(low, high, step) for low, high, step in stretches if high is not None]):
        if joined and low <= joined[-1][1] + 1:
            joined[-1] = (joined[-1][0], max(high, joined[-1][1]), 1)
        else:
            joined.append((low, high, 1))
    endless = [low for low, high, _ in stretches if high is None]
    if not endless:
        return joined
    start = min(endless)
    while joined and joined[-1][1] >= start - 1:
        start = min(start, joined.pop()[0])
    return [*joined, (start, None, 1)]


def simpler(stretches):
    """The same numbers in fewer stretches: plain ones joined, and none within another one."""
    trim = [trimmed(stretch) for stretch in stretches]
    plain = joined_plain([stretch for stretch in trim if stretch[2] == 1])
    found = list(plain)
    others = sorted([(stretch[2], stretch[0], stretch) for stretch in trim if stretch[2] > 1 and stretch[1] is None])
    others = others + sorted([(stretch[2], stretch[0], stretch) for stretch in trim
                              if stretch[2] > 1 and stretch[1] is not None])
    for _, _, stretch in others:
        if not [one for one in found if is_within(stretch, one)]:
            found.append(stretch)
    return found


def count_of(stretch, last):
    """How many numbers of a stretch there are up to a last one."""
    low, high, step = stretch
    end = last if high is None else min(last, high)
    return 0 if end < low else (end - low) // step + 1


def count_all(stretches, last):
    """How many numbers there are in some stretches up to a last one, each counted once."""
    total = 0
    for at, stretch in enumerate(stretches):
        total += count_of(stretch, last)
        shared = [meeting(stretch, other) for other in stretches[:at]]
        shared = [one for one in shared if one is not None and one[0] <= last]
        if shared:
            total -= count_all(simpler(shared), last)
    return total


class StretchSet:
    """The numbers of some stretches, triples (least, greatest or None, step)."""

    def __init__(self, stretches):
        self.stretches = simpler(stretches)

    def least_from(self, number):
        """The least number of the set from one on, or None."""
        found = [first_from(stretch, number) for stretch in self.stretches]
        found = [one for one in found if one is not None]
        return min(found) if found else None

    def count_to(self, last):
        """How many numbers of the set there are up to a last one."""
        return count_all(self.stretches, last)

    def repeats_from(self):
        """A number from which on the set repeats, and after how many numbers it does."""
        start = 0
        period = 1
        for low, high, step in self.stretches:
            start = max(start, low if high is None else high + 1)
            if high is None:
                period = period // gcd(period, step) * step
        return start, period

    def least_outside(self, number):
        """The least number that is not in the set from one on, or None."""
        start, period = self.repeats_from()
        before = self.count_to(number - 1)
        low, high = number, max(start, number) + period
        if self.count_to(high) - before == high - number + 1:
            return None
        while low < high:
            middle = (low + high) // 2
            if self.count_to(middle) - before == middle - number + 1:
                low = middle + 1
            else:
                high = middle
        return low
