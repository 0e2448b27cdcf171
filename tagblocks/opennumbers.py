"""Numbers that are open: forms of names, of which a play asks; where several answers can be, all are followed.

A play on open numbers is made again for each row of answers: what was answered so far is the trail, and where an
answer could be another one, a trail that ends with it waits. So a play needs to know nothing of this.
"""

from tagblocks.forms import level, negated, plain, plus, shifted


class OpenNumbers:
    """The ranges of the names, the rows that hold on this way, and the answers that were given.

    lows and tops tell the range of each name, None for no end. defined has the rows that tell what new names mean.
    Where no answer can be, as the rows at the start cannot hold, the way is lost, and its answers mean nothing. known
    has the answers of this way; solved, which other ways share, remembers which rows can hold.
    """

    def __init__(self, lows, tops, trail, rows, solved):
        self.lows = dict(lows)
        self.tops = dict(tops)
        self.defined = []
        self.trail = list(trail)
        self.at = 0
        self.rows = list(rows)
        self.solved = solved
        self.waiting = []
        self.known = {}
        self.is_lost = False

    def constant(self, worth):
        """A number of a text."""
        return plain(worth)

    def plus(self, one, times, other):
        """One number and another one, times a factor."""
        return plus(one, times, other)

    def ends(self, form):
        """The least and the greatest number that a form can be by the ranges of its names; None for no end."""
        least = greatest = form.get(0, 0)
        for name, factor in form.items():
            if name == 0:
                continue
            low, high = self.lows[name], self.tops[name]
            if factor < 0:
                low, high = high, low
            least = None if least is None or low is None else least + factor * low
            greatest = None if greatest is None or high is None else greatest + factor * high
        return least, greatest

    def ranges(self):
        """The rows that tell the ranges of all names."""
        rows = [{0: -low, name: 1} for name, low in self.lows.items() if low is not None]
        return rows + [{0: top, name: -1} for name, top in self.tops.items() if top is not None]

    def whole_rows(self, more):
        """All rows that hold on this way, and more."""
        return self.rows + self.defined + more + self.ranges()

    def can_be(self, more):
        """Whether more rows can hold on this way."""
        return self.solved.can_hold(self.whole_rows(more))

    def is_replayed(self):
        """Whether the next answer was given before."""
        return self.at < len(self.trail)

    def replayed(self):
        """The next answer, which was given before."""
        self.at += 1
        return self.trail[self.at - 1]

    def answer(self, worth, rows):
        """Gives an answer with which some rows hold."""
        self.trail.append(worth)
        self.at += 1
        self.rows = self.rows + rows
        return worth

    def choose(self, choices):
        """The first one of some choices, pairs of an answer and its rows, that can be; the other ones wait."""
        if self.is_replayed():
            return self.replayed()
        if self.is_lost:
            return choices[0][0]
        able = [(worth, rows) for worth, rows in choices if self.can_be(rows)]
        if not able:
            self.is_lost = True
            return choices[0][0]
        for worth, rows in able[1:]:
            self.waiting.append(([*self.trail, worth], self.rows + rows))
        worth, rows = able[0]
        # What alone can be says nothing new.
        return self.answer(worth, rows if len(able) > 1 else [])

    def offer(self, answers):
        """The first one of some answers that can all be; the other ones wait."""
        if self.is_replayed():
            return self.replayed()
        if not self.is_lost:
            for worth in answers[1:]:
                self.waiting.append(([*self.trail, worth], self.rows))
        return self.answer(answers[0], [])

    def once(self, sort, form, choices):
        """The choice for a form; what was asked on this way before has the same answer."""
        key = (sort, key_of(form))
        if key not in self.known:
            self.known[key] = self.choose(choices)
        return self.known[key]

    def below(self, one, other):
        """Whether one number is less than another one."""
        gap = plus(other, -1, one)
        least, greatest = self.ends(gap)
        if least is not None and least > 0:
            return True
        if greatest is not None and greatest <= 0:
            return False
        return self.once("below", gap, [(True, [shifted(gap, -1)]), (False, [negated(gap)])])

    def same(self, one, other):
        """Whether two numbers are equal."""
        gap = plus(other, -1, one)
        least, greatest = self.ends(gap)
        if least == 0 and greatest == 0:
            return True
        if (least is not None and least > 0) or (greatest is not None and greatest < 0):
            return False
        key = ("same", key_of(gap))
        if key in self.known or self.is_replayed() or (not self.is_lost and self.can_be(level(gap))):
            return self.once("same", gap, [(True, level(gap)), (False, [shifted(gap, -1)]),
                                           (False, [shifted(negated(gap), -1)])])
        self.known[key] = self.answer(False, [])
        return False

    def is_multiple(self, number, unit):
        """Whether a unit divides a number, of whose names it divides the factors."""
        return number.get(0, 0) % unit == 0

    def new_name(self, low, top):
        """A new name with a least and a greatest number, which may be None."""
        name = len(self.tops) + 1
        self.lows[name] = low
        self.tops[name] = top
        return name

    def define(self, rows):
        """Lets rows hold that tell what new names mean: a play that is made again makes them again."""
        self.defined = self.defined + rows

    def quotient(self, number, divisor):
        """A number divided by a number from 1 on, rounded down: a new name."""
        quotient = {0: 0, self.new_name(None, None): 1}
        rest = plus(number, -divisor, quotient)
        self.define([rest, shifted(negated(rest), divisor - 1)])
        return quotient


def key_of(form):
    """What a form is known by."""
    return tuple(sorted([(name, factor) for name, factor in form.items()]))
