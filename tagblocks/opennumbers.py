"""Numbers that are open: forms of names, of which a play asks; where several answers can be, all are followed.

A play on open numbers is made again for each row of answers: what was answered so far is the trail, and where an
answer could be another one, a trail that ends with it waits. So a play needs to know nothing of this.
"""

from tagblocks.forms import level, negated, plain, plus, shifted


class OpenNumbers:
    """The ranges of the names, the rows that hold on this way, and the answers that were given.

    lows and tops tell the range of each name, None for no end. defined has the rows that tell what new names mean;
    meanings has those of names that there is a number for whatever the other ones are, which may be left out;
    quotients has the ones of forms that were divided before. Where no answer can be, as the rows at the start cannot
    hold, the way is lost, and its answers mean nothing. known has the answers of this way; solved, which other ways
    share, remembers which rows can hold.

    points are some numbers that the names can have, a dict for each: where rows hold at one of them, they can hold,
    and nothing is left to be solved. untried are the rows of this way that the points have not been tried with. The
    way is sure where its rows are known to be such that they can hold.
    """

    def __init__(self, lows, tops, trail, rows, solved, points=()):
        self.lows = dict(lows)
        self.tops = dict(tops)
        self.defined = []
        self.meanings = {}
        self.quotients = {}
        self.trail = list(trail)
        self.at = 0
        self.rows = list(rows)
        self.solved = solved
        self.waiting = []
        self.known = {}
        self.is_lost = False
        self.points = [dict(point) for point in points]
        self.untried = list(rows)
        self.is_sure = False

    def constant(self, worth):
        """A number of a text."""
        return plain(worth)

    def plus(self, one, times, other):
        """One number and another one, times a factor."""
        return plus(one, times, other)

    def ends(self, form):
        """The least and the greatest number that a form can be by the ranges of its names; None for no end."""
        return self.ends_between({0: 0}, form)

    def ends_between(self, one, other):
        """The least and the greatest number that another form can be less one of them; None for no end."""
        if one == other:
            return 0, 0
        least = greatest = other.get(0, 0) - one.get(0, 0)
        lows, tops = self.lows, self.tops
        for name, factor in other.items():
            if name and name in one:
                factor -= one[name]
            if name and factor:
                low, high = (lows[name], tops[name]) if factor > 0 else (tops[name], lows[name])
                least = None if least is None or low is None else least + factor * low
                greatest = None if greatest is None or high is None else greatest + factor * high
        for name, factor in one.items():
            if name and name not in other:
                low, high = (tops[name], lows[name]) if factor > 0 else (lows[name], tops[name])
                least = None if least is None or low is None else least - factor * low
                greatest = None if greatest is None or high is None else greatest - factor * high
        return least, greatest

    def opened(self, form):
        """A form in which the names stand that the rows are solved for."""
        return form

    def ranges(self, names):
        """The rows that tell the ranges of some names; what has none may be any number."""
        lows, tops = self.lows, self.tops
        rows = [{0: -lows[name], name: 1} for name in names if lows.get(name) is not None]
        return rows + [{0: tops[name], name: -1} for name in names if tops.get(name) is not None]

    def whole_rows(self, more):
        """All rows that hold on this way, and more."""
        told = [row for rows in self.meanings.values() for row in rows]
        rows = [self.opened(row) for row in self.rows + self.defined + told + more]
        return rows + self.ranges(self.lows)

    def needed_rows(self, more):
        """Rows that can hold exactly if all of this way, and more, can: without names that nothing needs."""
        rows = [self.opened(row) for row in self.rows + self.defined + more]
        names = {}
        waiting = names_in(rows)
        while waiting:
            name = waiting.pop()
            if name not in names:
                names[name] = True
                if name in self.meanings:
                    told = [self.opened(row) for row in self.meanings[name]]
                    rows = rows + told
                    waiting.extend(names_in(told))
        return rows + self.ranges(sorted(names))

    def can_be(self, more):
        """Whether more rows can hold on this way."""
        return self.holds_at_point(more) or self.solved.can_hold(self.needed_rows(more))

    def points_left(self):
        """The points at which all rows of this way hold."""
        if self.untried:
            rows = self.untried
            self.points = [point for point in self.points if hold_at(rows, point)]
            self.untried = []
        return self.points

    def holds_at_point(self, more):
        """Whether all rows of this way, and more, hold at one of the points."""
        for point in self.points_left():
            if hold_at(more, point):
                return True
        return False

    def least_at_points(self, rows, name, low, high):
        """The least number from one to another one that a name has at a point where rows hold, or None."""
        found = None
        for point in self.points_left():
            worth = point[name]
            if low <= worth <= high and (found is None or worth < found) and hold_at(rows, point):
                found = worth
        return found

    def is_replayed(self):
        """Whether the next answer was given before."""
        return self.at < len(self.trail)

    def replayed(self):
        """The next answer, which was given before."""
        self.at += 1
        return self.trail[self.at - 1]

    def answer(self, worth, rows):
        """Gives an answer with which some rows hold."""
        self.trail.append(worth)
        self.at += 1
        self.let_hold(rows)
        return worth

    def choose(self, choices):
        """The first one of some choices, pairs of an answer and its rows, that can be; the other ones wait."""
        if self.is_replayed():
            return self.replayed()
        if self.is_lost:
            return choices[0][0]
        able = self.able_of(choices)
        if not able:
            self.is_lost = True
            return choices[0][0]
        self.is_sure = True
        for worth, rows in able[1:]:
            self.waiting.append(([*self.trail, worth], self.rows + rows))
        worth, rows = able[0]
        # What alone can be says nothing new.
        return self.answer(worth, rows if len(able) > 1 else [])

    def able_of(self, choices):
        """Those of some choices that can be; on a way that is sure one of them can be."""
        told = [self.holds_at_point(rows) for _, rows in choices]
        is_sure = self.is_sure or True in told
        able = []
        for at, (worth, rows) in enumerate(choices):
            is_last = at == len(choices) - 1
            if told[at] or (is_last and is_sure and not able) or self.solved.can_hold(self.needed_rows(rows)):
                able.append((worth, rows))
        return able

    def offer(self, answers):
        """The first one of some answers that can all be; the other ones wait."""
        if self.is_replayed():
            return self.replayed()
        if not self.is_lost:
            for worth in answers[1:]:
                self.waiting.append(([*self.trail, worth], self.rows))
        return self.answer(answers[0], [])

    def once(self, sort, form, choices):
        """The choice for a form; what was asked on this way before has the same answer."""
        key = (sort, key_of(form))
        if key not in self.known:
            self.known[key] = self.choose(choices)
        return self.known[key]

    def below(self, one, other):
        """Whether one number is less than another one."""
        least, greatest = self.ends_between(one, other)
        if least is not None and least > 0:
            return True
        if greatest is not None and greatest <= 0:
            return False
        gap = plus(other, -1, one)
        return self.once("below", gap, [(True, [shifted(gap, -1)]), (False, [negated(gap)])])

    def same(self, one, other):
        """Whether two numbers are equal."""
        least, greatest = self.ends_between(one, other)
        if least == 0 and greatest == 0:
            return True
        if (least is not None and least > 0) or (greatest is not None and greatest < 0):
            return False
        gap = plus(other, -1, one)
        key = ("same", key_of(gap))
        if key in self.known or self.is_replayed() or (not self.is_lost and self.can_be(level(gap))):
            return self.once("same", gap, [(True, level(gap)), (False, [shifted(gap, -1)]),
                                           (False, [shifted(negated(gap), -1)])])
        self.known[key] = self.answer(False, [])
        return False

    def is_multiple(self, number, unit):
        """Whether a unit divides a number, of whose names it divides the factors."""
        return number.get(0, 0) % unit == 0

    def next_name(self):
        """The name that a new one will have."""
        return max(self.tops, default=0) + 1

    def new_name(self, low, top):
        """A new name with a least and a greatest number, which may be None; nothing is known of it at the points."""
        name = self.next_name()
        self.lows[name] = low
        self.tops[name] = top
        self.points = []
        return name

    def name_for(self, low, top, form, divisor):
        """A new name, which is a form divided by a number and rounded down at the points."""
        points = self.points
        name = self.new_name(low, top)
        for point in points:
            point[name] = worth_at(form, point) // divisor
        self.points = points
        return name

    def define(self, rows):
        """Lets rows hold that tell what new names mean: a play that is made again makes them again."""
        self.defined = self.defined + rows
        self.untried = self.untried + rows
        self.is_sure = False

    def quotient(self, number, divisor):
        """A number divided by a number from 1 on, rounded down: whole parts, and a new name for the rest of them."""
        # Small factors are left, above or below 0.
        whole = {name: (2 * factor + divisor - 1) // (2 * divisor) for name, factor in number.items()}
        whole = {name: times for name, times in whole.items() if times or name == 0}
        rest = plus(number, -divisor, whole)
        least, greatest = self.ends(rest)
        low = None if least is None else least // divisor
        top = None if greatest is None else greatest // divisor
        if low is not None and low == top:
            return shifted(whole, low)
        key = (key_of(rest), divisor)
        if key not in self.quotients:
            name = self.name_for(low, top, rest, divisor)
            over = plus(rest, -divisor, {0: 0, name: 1})
            self.meanings[name] = [over, shifted(negated(over), divisor - 1)]
            self.quotients[key] = {0: 0, name: 1}
        return plus(whole, 1, self.quotients[key])

    def let_hold(self, rows):
        """Lets more rows hold, which were seen to be able to hold."""
        self.rows = self.rows + rows
        self.untried = self.untried + rows


def worth_at(form, point):
    """What a form is at a point."""
    total = form.get(0, 0)
    for name, factor in form.items():
        if name:
            total += factor * point[name]
    return total


def names_in(rows):
    """The names that stand in rows."""
    return list({name: True for row in rows for name in row if name})


def hold_at(rows, point):
    """Whether rows hold at a point."""
    for row in rows:
        if worth_at(row, point) < 0:
            return False
    return True


def key_of(form):
    """What a form is known by."""
    return tuple(sorted([(name, factor) for name, factor in form.items()]))


def spread(low, high, step):
    """Numbers of several magnitudes from one to another one, ascending; some near the ends, and one behind a step."""
    found = [low, low + 1, low + 2, low + step, high // 2, high - 1, high]
    found = found + [low + (1 << power) for power in range(9, 64, 14)]
    return sorted({number: True for number in found if low <= number <= high})
