"""Solving systems: which numbers a name can have, as a list of stretches, and whether rows can hold at all."""

from tagblocks.bitsolving import bits_can_hold
from tagblocks.forms import level, shifted
from tagblocks.reducing import ranges_of, reduced
from tagblocks.settling import range_of, settled
from tagblocks.strikes import Strike, dark, is_dark, joined_table, splinters, struck_exactly, without
from tagblocks.systems import System, level_in, levelled, table_of

# With so few slices a system is parted at once; with more its names are put in order first.
FEW_SLICES = 6
# A range of more numbers than these is halved, not tried number by number.
MANY_NUMBERS = 32
# With so many systems in the place of one, names are parted into bits.
MANY_SYSTEMS = 100
# What it takes to part a system grows with its rows taken three times; it counts as one for few of them.
ROWS_AT_ONCE = 400
# Splinters are taken only if there are no more than these.
MANY_SPLINTERS = 4096


class Hard:
    """A system of which no name can be struck out exactly: the best name for it, with its dark shadow and splinters."""

    def __init__(self, system, strikes):
        self.system = system
        self.many = None
        for strike in strikes:
            rest = without(system.table, strike)
            pairs = strike.pairs()
            near = splinters([pair for pair in pairs if not is_dark(pair, rest)])
            many = sum([last + 1 for _, last in near])
            if self.many is None or many < self.many:
                self.rest, self.bounds, self.near, self.many = rest, pairs, near, many

    def shadow(self):
        """The system with the dark shadow for the name."""
        return self.system.with_table(joined_table(self.rest, [dark(pair) for pair in self.bounds]))

    def by_splinters(self):
        """The splinters and the shadow."""
        slices = [with_level(self.system, shifted(row, -step)) for row, last in self.near for step in range(last + 1)]
        return [*slices, self.shadow()]

    def by_ranges(self):
        """The system parted along the name with the shortest range, or put in order; None if a name has no end."""
        name = shortest_name(self.system) if self.system.is_ordered else None
        if name is not None:
            return each_number(self.system, name, range_of(self.system.table, name))
        ranges = ranges_of(self.system.table)
        if ranges is None:
            return None
        shortest = min([high - low for low, high in ranges.values()])
        if shortest < 0:
            return []
        if min(shortest, self.many) >= FEW_SLICES and not self.system.is_ordered:
            return [reduced(self.system, ranges)]
        if self.many <= min(shortest, MANY_SPLINTERS):
            return None
        name = [name for name, (low, high) in ranges.items() if high - low == shortest][0]
        low, high = ranges[name]
        if shortest < MANY_NUMBERS:
            return each_number(self.system, name, ranges[name])
        # The last one is looked at first: where there is much room, the middle is a good place.
        middle = (low + high) // 2
        return [with_row(self.system, {0: middle - 1, name: -1}), with_row(self.system, {0: -middle - 1, name: 1}),
                with_level(self.system, {0: -middle, name: 1})]


def shortest_name(system):
    """A name whose own rows let few numbers, the fewest of all, or None."""
    shortest = None
    for name in system.others():
        low, high = range_of(system.table, name)
        if low is not None and high is not None and high - low < FEW_SLICES:
            if shortest is None or high - low < shortest[0]:
                shortest = (high - low, name)
    return None if shortest is None else shortest[1]


def each_number(system, name, ends):
    """The systems in which a name is one of the numbers of a range."""
    return [with_level(system, {0: -worth, name: 1}) for worth in range(ends[0], ends[1] + 1)]


def with_row(system, row):
    """The system with one more row."""
    return system.with_table(joined_table(system.table, [row]))


def with_level(system, form):
    """The system in which a form is 0, whose names are not in order any more."""
    table = joined_table(system.table, level(form))
    return System(table, system.kept, system.start, system.step, False)


def smaller(system):
    """The systems, each with less to be struck out, that have together what a system has; None if all is done."""
    table = settled(system.table)
    if table is None:
        return []
    system = system.with_table(table)
    form = level_in(system.table)
    if form is not None:
        return [levelled(system, form)]
    strikes = [Strike(system.table, name) for name in system.others()]
    if not strikes:
        return None
    exact = [strike for strike in strikes if strike.is_exact()]
    if exact:
        least = min([strike.growth() for strike in exact])
        return [struck_exactly(system, [strike for strike in exact if strike.growth() == least][0])]
    hard = Hard(system, strikes)
    if not system.kept and hard.many >= FEW_SLICES:
        parts = hard.by_ranges()
        if parts is not None:
            return parts
    return hard.by_splinters()


def stretches_of(rows, kept):
    """The stretches of numbers that a name has where all rows hold; the rows tell a least number for the name."""
    found = []
    waiting = [System(table_of(rows), kept, 0, 1, False)]
    while waiting:
        system = waiting.pop()
        parts = smaller(system) if system.table is not None else []
        if parts is None:
            found.append(system.stretch())
        else:
            waiting.extend(parts)
    return found


def parted_soon(table, most):
    """Whether the rows of a table can hold, or None if that is open, and how much was done to tell.

    It is open when as much was done as is let; to part a system takes the longer the more rows it has.
    """
    waiting = [System(table, 0, 0, 1, False)]
    done = 0
    while waiting and done < most:
        system = waiting.pop()
        if system.table is not None:
            many = len(system.table)
            done += 1 + many * many * many // ROWS_AT_ONCE
            parts = smaller(system)
            if parts is None:
                return True, done
            waiting.extend(parts)
    return None if waiting else False, done


def can_hold_by_parts(table, most):
    """Whether the rows of a table can hold; None if that is open when so many systems were parted (None for no end)."""
    waiting = [System(table, 0, 0, 1, False)]
    many = 0
    while waiting:
        system = waiting.pop()
        parts = smaller(system) if system.table is not None else []
        if parts is None:
            return True
        waiting.extend(parts)
        many += 1
        if many == most:
            return None
    return False


def can_hold(rows):
    """Whether there are whole numbers for which all rows hold."""
    return table_can_hold(table_of(rows))


def table_can_hold(table):
    """Whether there are whole numbers for which all rows of a table hold; None is a table that never does."""
    held = can_hold_by_parts(table, MANY_SYSTEMS)
    # Few systems are hard for one of the two ways, and hardly any for both.
    if held is None:
        held = bits_can_hold(table)
    return can_hold_by_parts(table, None) if held is None else held


class Solved:
    """Whether rows can hold, for all rows that were asked about so far: many ways ask the same.

    It is given up where more was to be done than is let; then answers mean nothing.
    """

    def __init__(self):
        self.known = {}
        self.is_given_up = False

    def can_hold(self, rows):
        """Whether there are whole numbers for which all rows hold."""
        table = table_of(rows)
        if table is None:
            return False
        key = tuple(sorted(table.items()))
        if key not in self.known:
            self.known[key] = self.table_holds(table)
        return self.known[key]

    def table_holds(self, table):
        """Whether the rows of a table can hold."""
        return table_can_hold(table)


class SolvedSoon(Solved):
    """Whether rows can hold, as far as so much work tells it."""

    def __init__(self, left):
        super().__init__()
        self.left = left

    def table_holds(self, table):
        """Whether the rows of a table can hold."""
        if self.is_given_up:
            return False
        held, done = parted_soon(table, self.left)
        self.left -= 1 + done
        self.is_given_up = held is None or self.left <= 0
        return bool(held)
