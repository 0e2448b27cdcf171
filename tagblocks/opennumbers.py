"""Numbers that are open: forms of names, of which a play asks; where several answers can be, all are followed.

A play on open numbers is made again for each row of answers: what was answered so far is the trail, and where an
answer could be another one, a trail that ends with it waits. So a play needs to know nothing of this.
"""

from tagblocks.forms import level, negated, plain, plus, put_in, shifted

# A quotient with more possible values than these becomes a name of its own.
MANY_QUOTIENTS = 8


class OpenNumbers:
    """The ranges of the names, the rows that hold on this way, and the answers that were given.

    lows and tops tell the range of each name, a top may be None. A name may be parted into its low twos and what
    is above these, which are names then: parts has the two names and the number of the low twos. Where no answer can
    be, as the rows at the start cannot hold, the way is lost, and its answers mean nothing. known has the answers of
    this way; solved, which other ways share, remembers which rows can hold.
    """

    def __init__(self, lows, tops, trail, rows, solved):
        self.lows = dict(lows)
        self.tops = dict(tops)
        self.parts = {}
        self.trail = list(trail)
        self.at = 0
        self.rows = list(rows)
        self.solved = solved
        self.waiting = []
        self.known = {}
        self.is_lost = False

    def constant(self, worth):
        """A number of a text."""
        return plain(worth)

    def plus(self, one, times, other):
        """One number and another one, times a factor."""
        return plus(one, times, other)

    def opened(self, form):
        """A form without names that are parted."""
        while True:
            parted = [name for name in form if name in self.parts]
            if not parted:
                return form
            for name in parted:
                low, high, power = self.parts[name]
                form = put_in(form, name, {0: 0, low: 1, high: 1 << power})

    def ends(self, form):
        """The least and the greatest number that a form without parted names can be by the ranges, or None."""
        least = greatest = form.get(0, 0)
        for name, factor in form.items():
            if name == 0:
                continue
            low, high = self.lows[name], self.tops[name]
            if factor < 0:
                low, high = high, low
            least = None if least is None or low is None else least + factor * low
            greatest = None if greatest is None or high is None else greatest + factor * high
        return least, greatest

    def ranges(self):
        """The rows that tell the ranges of all names that are not parted."""
        rows = [{0: -low, name: 1} for name, low in self.lows.items() if name not in self.parts]
        return rows + [{0: top, name: -1} for name, top in self.tops.items()
                       if top is not None and name not in self.parts]

    def whole_rows(self, more):
        """All rows that hold on this way, and more."""
        return [self.opened(row) for row in self.rows + more] + self.ranges()

    def can_be(self, more):
        """Whether more rows can hold on this way."""
        return self.solved.can_hold(self.whole_rows(more))

    def is_replayed(self):
        """Whether the next answer was given before."""
        return self.at < len(self.trail)

    def replayed(self):
        """The next answer, which was given before."""
        self.at += 1
        return self.trail[self.at - 1]

    def answer(self, worth, rows):
        """Gives an answer with which some rows hold."""
        self.trail.append(worth)
        self.at += 1
        self.rows = self.rows + rows
        return worth

    def choose(self, choices):
        """The first one of some choices, pairs of an answer and its rows, that can be; the other ones wait."""
        if self.is_replayed():
            return self.replayed()
        if self.is_lost:
            return choices[0][0]
        able = [(worth, rows) for worth, rows in choices if self.can_be(rows)]
        if not able:
            self.is_lost = True
            return choices[0][0]
        for worth, rows in able[1:]:
            self.waiting.append(([*self.trail, worth], self.rows + rows))
        worth, rows = able[0]
        # What alone can be says nothing new.
        return self.answer(worth, rows if len(able) > 1 else [])

    def once(self, sort, form, choices):
        """The choice for a form; what was asked on this way before has the same answer."""
        key = (sort, key_of(form))
        if key not in self.known:
            self.known[key] = self.choose(choices)
        return self.known[key]

    def below(self, one, other):
        """Whether one number is less than another one."""
        gap = self.opened(plus(other, -1, one))
        least, greatest = self.ends(gap)
        if least is not None and least > 0:
            return True
        if greatest is not None and greatest <= 0:
            return False
        return self.once("below", gap, [(True, [shifted(gap, -1)]), (False, [negated(gap)])])

    def same(self, one, other):
        """Whether two numbers are equal."""
        gap = self.opened(plus(other, -1, one))
        least, greatest = self.ends(gap)
        if least == 0 and greatest == 0:
            return True
        if (least is not None and least > 0) or (greatest is not None and greatest < 0):
            return False
        key = ("same", key_of(gap))
        if key in self.known or self.is_replayed() or (not self.is_lost and self.can_be(level(gap))):
            return self.once("same", gap, [(True, level(gap)), (False, [shifted(gap, -1)]),
                                           (False, [shifted(negated(gap), -1)])])
        self.known[key] = self.answer(False, [])
        return False

    def is_multiple(self, number, unit):
        """Whether a unit divides a number, of whose names it divides the factors."""
        return number.get(0, 0) % unit == 0

    def quotient(self, number, power):
        """A number divided by 2 ** power, rounded down."""
        if power == 0:
            return number
        form = self.parted_at(self.opened(number), power)
        divisor = 1 << power
        high = {name: factor // divisor for name, factor in form.items() if factor % divisor == 0 or name == 0}
        low = {name: factor for name, factor in form.items() if factor % divisor != 0}
        low[0] = form[0] % divisor
        least, greatest = self.ends(low)
        if least >> power == greatest >> power:
            return shifted(high, least >> power)
        return plus(high, 1, self.carry(low, power, least >> power, greatest >> power))

    def carry(self, low, power, least, greatest):
        """The quotient of a form that lies between two of them: one of them for each way, or a new name."""
        if greatest - least < MANY_QUOTIENTS:
            choices = [(worth, between(low, plain(worth), power)) for worth in range(least, greatest + 1)]
            return plain(self.once(power, low, choices))
        key = (power, key_of(low))
        if key not in self.known:
            name = self.new_name(greatest - least)
            self.rows = self.rows + between(low, {0: least, name: 1}, power)
            self.known[key] = {0: least, name: 1}
        return self.known[key]

    def new_name(self, top):
        """A new name, from 0 to a number."""
        name = len(self.tops) + 1
        self.lows[name] = 0
        self.tops[name] = top
        return name

    def parted_at(self, form, power):
        """A form whose names are parted so that above the low twos 2 ** power divides their factors."""
        while True:
            wide = [name for name, factor in form.items() if name and self.is_wide(name, factor, power)]
            if not wide:
                return form
            for name in wide:
                self.split_name(name, power - twos_in(form[name]))
            form = self.opened(form)

    def is_wide(self, name, factor, power):
        """Whether a name has twos that 2 ** power divides when they are times the factor, beside others."""
        twos = twos_in(factor)
        return twos < power and self.tops[name] >> (power - twos) > 0

    def split_name(self, name, power):
        """Parts a name into its low twos and what is above them."""
        top = self.tops[name]
        low = self.new_name((1 << power) - 1)
        high = self.new_name(top >> power)
        self.parts[name] = (low, high, power)
        if (top + 1) & ((1 << power) - 1):
            self.rows = [*self.rows, {0: top, low: -1, high: -(1 << power)}]


def key_of(form):
    """What a form is known by."""
    return tuple(sorted([(name, factor) for name, factor in form.items()]))


def twos_in(factor):
    """How often two divides a number that is not 0."""
    return (factor & -factor).bit_length() - 1


def between(low, quotient, power):
    """The rows that tell that one form is the quotient of another one by 2 ** power."""
    rest = plus(low, -(1 << power), quotient)
    return [rest, shifted(negated(rest), (1 << power) - 1)]
