"""Putting the names of a hard system in order: with other names its ranges are short where there is little room."""

from tagblocks.forms import plus
from tagblocks.settling import range_of, settled
from tagblocks.strikes import Strike, struck_table
from tagblocks.systems import table_of

# Ends are not looked for beyond a table of more rows.
MANY_ROWS = 40


def names_of(table):
    """The names of a table, ascending."""
    names = {name: True for key in table for name, _ in key}
    return sorted(names)


def ends_of(table, kept):
    """Numbers between which a name lies if all rows hold, as close as is found quickly; None for no end."""
    low, high = range_of(table, kept)
    rest = settled(table)
    while rest is not None:
        low, high = range_of(rest, kept)
        strikes = [Strike(rest, name) for name in names_of(rest) if name != kept]
        if not strikes or len(rest) > MANY_ROWS:
            return (low, high)
        least = min([strike.growth() for strike in strikes])
        rest = settled_or_none(struck_table(rest, [strike for strike in strikes if strike.growth() == least][0]))
    return (1, 0)


def settled_or_none(table):
    """A table settled, or None if it never holds."""
    return None if table is None else settled(table)


def ranges_of(table):
    """The ends of all names of a table; None if one has no end."""
    ranges = {name: ends_of(table, name) for name in names_of(table)}
    for low, high in ranges.values():
        if low is None or high is None:
            return None
    return ranges


def room_of(key, table, ranges):
    """By how much the numbers of a row differ at the most."""
    other = tuple([(name, -factor) for name, factor in key])
    if other in table:
        return table[key] + table[other]
    greatest = sum([max(factor * ranges[name][0], factor * ranges[name][1]) for name, factor in key])
    return max(greatest + table[key], 0)


def weighed(table, ranges):
    """For each name how far a step of it leads: a number for each row, the greater the less room the row leaves."""
    rows = [(dict(key), room_of(key, table, ranges)) for key in table]
    rows = rows + [({name: 1}, high - low) for name, (low, high) in ranges.items()]
    power = max([room for _, room in rows]).bit_length() + 16
    return {name: [row.get(name, 0) * ((1 << power) // (room + 1)) for row, room in rows] for name in ranges}


def product_of(one, other):
    """The inner product of two rows of numbers."""
    return sum([left * right for left, right in zip(one, other)])


def nearest(number, divisor):
    """A quotient, rounded to the nearest whole number."""
    return (2 * number + divisor) // (2 * divisor)


class Basis:
    """Steps in place of those of the old names: how far each leads, of which old ones it is made, and how many there
    are of it, told by the old names."""

    def __init__(self, steps):
        self.steps = dict(steps)
        self.made = {name: {name: 1} for name in steps}
        self.told = {name: {name: 1} for name in steps}

    def shorten(self, name, other):
        """Takes a step away from another one as often as makes it shortest; whether that made it shorter."""
        step, near = self.steps[name], self.steps[other]
        times = nearest(product_of(step, near), product_of(near, near))
        less = [one - times * two for one, two in zip(step, near)]
        if times == 0 or product_of(less, less) >= product_of(step, step):
            return False
        self.steps[name] = less
        self.made[name] = plus(self.made[name], -times, self.made[other])
        self.told[other] = plus(self.told[other], times, self.told[name])
        return True

    def shorten_all(self):
        """Shortens steps by others as long as one becomes shorter."""
        names = list(self.steps)
        is_changed = True
        while is_changed:
            is_changed = False
            for name in names:
                for other in names:
                    if other != name and self.shorten(name, other):
                        is_changed = True


def range_rows(form, name, ranges):
    """The two rows for a name that is a sum of names with ranges."""
    ends = [(factor * ranges[one][0], factor * ranges[one][1]) for one, factor in form.items()]
    return [{0: -sum([min(pair) for pair in ends]), name: 1}, {0: sum([max(pair) for pair in ends]), name: -1}]


def reduced(system, ranges):
    """The system with new names in the place of its names: each old one is a sum of new ones, and the other way."""
    basis = Basis(weighed(system.table, ranges))
    basis.shorten_all()
    rows = []
    for key, added in system.table.items():
        factors = dict(key)
        row = {name: sum([factors[one] * many for one, many in made.items() if one in factors])
               for name, made in basis.made.items()}
        row[0] = added
        rows.append(row)
    for name in ranges:
        rows = rows + range_rows(basis.told[name], name, ranges)
    ordered = system.with_table(table_of(rows))
    ordered.is_ordered = True
    return ordered
