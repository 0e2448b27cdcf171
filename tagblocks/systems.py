"""Systems of rows: for which whole numbers they hold, told exactly, by striking out one name after the other.

A system is a table: a dict from the factors of a row, a tuple of pairs (name, factor) without a common divisor, to
what is added. Struck out is a name exactly where one of each two factors is 1; otherwise the rows that are surely
enough are taken, and beside them all the places near a least bound (Pugh's dark shadow and splinters).
"""

from math import gcd

from tagblocks.forms import plus, put_in


def insert_row(table, row):
    """Puts a row into a table; False if it can never hold beside the rows that are there."""
    factors = sorted([(name, factor) for name, factor in row.items() if name and factor])
    added = row.get(0, 0)
    if not factors:
        return added >= 0
    divisor = 0
    for _, factor in factors:
        divisor = gcd(divisor, factor)
    if divisor > 1:
        factors = [(name, factor // divisor) for name, factor in factors]
        added = added // divisor
    key = tuple(factors)
    if key in table and table[key] <= added:
        return True
    table[key] = added
    other = tuple([(name, -factor) for name, factor in factors])
    return other not in table or table[other] + added >= 0


def table_of(rows):
    """The table of some rows, or None if they can never hold."""
    table = {}
    for row in rows:
        if not insert_row(table, row):
            return None
    return table


def row_of(key, added):
    """The row that stands in a table."""
    row = dict(key)
    row[0] = added
    return row


def rows_of(table):
    """The rows of a table."""
    return [row_of(key, added) for key, added in table.items()]


def level_in(table):
    """A form that is 0 by two rows of a table, or None."""
    for key, added in table.items():
        if key[0][1] > 0:
            other = tuple([(name, -factor) for name, factor in key])
            if other in table and table[other] == -added:
                return row_of(key, added)
    return None


def inverse(number, modulus):
    """The number whose product with one is 1 by a modulus that it has no divisor with."""
    old, new = number % modulus, modulus
    first, second = 1, 0
    while new:
        times = old // new
        old, new = new, old - times * new
        first, second = second, first - times * second
    return first % modulus


class System:
    """A table, and what is kept of it: the numbers start + step * name for the name kept, or start alone for 0.

    The table is None if it can never hold. It is ordered if its names were chosen so that its ranges are short.
    """

    def __init__(self, table, kept, start, step, is_ordered):
        self.table = table
        self.kept = kept
        self.start = start
        self.step = step
        self.is_ordered = is_ordered

    def with_table(self, table):
        """A system with another table of which the same is kept."""
        return System(table, self.kept, self.start, self.step, self.is_ordered)

    def others(self):
        """The names of the table that are not kept, ascending."""
        names = {name: True for key in self.table for name, _ in key if name != self.kept}
        return sorted(names)

    def stretch(self):
        """The stretch (least, greatest, step) that is kept when no other names are left; greatest may be None."""
        if not self.kept:
            return (self.start, self.start, 1)
        least = -self.table[((self.kept, 1),)]
        key = ((self.kept, -1),)
        low = self.start + self.step * least
        if key not in self.table:
            return (low, None, self.step)
        return (low, self.start + self.step * self.table[key], self.step)


def replaced(system, name, worth):
    """The system with a form in the place of a name."""
    return system.with_table(table_of([put_in(row, name, worth) for row in rows_of(system.table)]))


def with_kept(system, residue, modulus):
    """The system in which the kept name is residue and modulus times a new one of its name; 0 for just residue."""
    worth = {0: residue, system.kept: modulus} if modulus else {0: residue}
    table = table_of([put_in(row, system.kept, worth) for row in rows_of(system.table)])
    start = system.start + system.step * residue
    if modulus:
        return System(table, system.kept, start, system.step * modulus, system.is_ordered)
    return System(table, 0, start, 1, system.is_ordered)


def levelled(system, form):
    """The system without a form that is 0, or with a simpler one in its place."""
    others = [name for name in form if name and name != system.kept]
    divisor = 0
    for name in others:
        divisor = gcd(divisor, form[name])
    own = form.get(system.kept, 0) if system.kept else 0
    if divisor == 0:
        # The one factor of a row is 1 or -1, so that this is a whole number.
        return with_kept(system, -form[0] // own, 0)
    if divisor > 1:
        # The factors of a level form have no common divisor, so that own and divisor have none.
        return with_kept(system, -form[0] * inverse(own, divisor) % divisor, divisor)
    least = min([abs(form[name]) for name in others])
    chosen = [name for name in others if abs(form[name]) == least][0]
    if least == 1:
        rest = {name: factor for name, factor in form.items() if name != chosen}
        return replaced(system, chosen, plus({0: 0}, -form[chosen], rest))
    worth = {0: 0, chosen: 1}
    for name in others:
        if name != chosen:
            worth = plus(worth, -(form[name] // form[chosen]), {0: 0, name: 1})
    return replaced(system, chosen, worth)
