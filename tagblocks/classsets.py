"""Sets of whole numbers from 0 on that are made of stretches with few steps: for each class of rests a row of spans."""

from math import lcm

from tagblocks.spans import joined_spans
from tagblocks.stretchsets import trimmed


def in_class(stretch, period, rest):
    """The span of the numbers of turns, so that rest and turns times a period are in a stretch; None for no end."""
    low, high, step = stretch
    if (rest - low) % step != 0:
        return None
    first = -((rest - low) // period)
    return (max(first, 0), None if high is None else (high - rest) // period)


class ClassSet:
    """The numbers of some stretches, triples (least, greatest or None, step)."""

    def __init__(self, stretches):
        trim = [trimmed(stretch) for stretch in stretches]
        self.period = 1
        for _, _, step in trim:
            self.period = lcm(self.period, step)
        ends = [low for low, _, _ in trim] + [high for _, high, _ in trim if high is not None]
        # From here on the set repeats, as all ends lie below.
        self.start = (max(ends, default=0) // self.period + 1) * self.period
        self.rows = []
        for rest in range(self.period):
            spans = [in_class(stretch, self.period, rest) for stretch in trim]
            last = self.start // self.period
            self.rows.append(joined_spans([(span[0], last if span[1] is None else span[1])
                                           for span in spans if span is not None]))
        self.endless = [len(row) > 0 and row[-1][1] >= self.start // self.period for row in self.rows]

    def first_turn(self, rest, turns, is_inside):
        """The least number of turns from one on with which a number of a class is in the set, or is not; or None."""
        at = turns
        for low, high in self.rows[rest]:
            if is_inside and at <= high:
                return max(low, at)
            if not is_inside and low <= at <= high:
                at = high + 1
        if self.endless[rest]:
            last = self.start // self.period
            return max(at, last) if is_inside else (at if at < last else None)
        return None if is_inside else at

    def first_number(self, number, is_inside):
        """The least number from one on that is in the set, or is not; or None."""
        found = []
        for rest in range(self.period):
            turns = self.first_turn(rest, max(-((rest - number) // self.period), 0), is_inside)
            if turns is not None:
                found.append(rest + self.period * turns)
        return min(found) if found else None

    def count_to(self, last):
        """How many numbers of the set there are up to a last one."""
        total = 0
        for rest in range(self.period):
            turns = (last - rest) // self.period
            ends = [(low, high) for low, high in self.rows[rest]]
            if self.endless[rest] and turns >= self.start // self.period:
                ends[-1] = (ends[-1][0], turns)
            total += sum([min(high, turns) - low + 1 for low, high in ends if low <= turns])
        return total
