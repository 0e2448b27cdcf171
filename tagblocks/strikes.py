"""Striking a name out of a table: the rows that follow of its bounds, exactly or not."""

from tagblocks.forms import shifted
from tagblocks.systems import insert_row, row_of, table_of


class Strike:
    """How a name can be struck out of a table: the rows that bound it from below and from above."""

    def __init__(self, table, name):
        self.name = name
        self.lows = []
        self.highs = []
        for key, added in table.items():
            factor = dict(key).get(name, 0)
            if factor > 0:
                self.lows.append((factor, key, added))
            elif factor < 0:
                self.highs.append((-factor, key, added))

    def is_exact(self):
        """Whether one factor of each pair is 1."""
        if not self.lows or not self.highs:
            return True
        return max([row[0] for row in self.lows]) == 1 or max([row[0] for row in self.highs]) == 1

    def growth(self):
        """By how many rows the table grows."""
        return len(self.lows) * len(self.highs) - len(self.lows) - len(self.highs)

    def pairs(self):
        """All pairs of a least and a greatest bound, with the row that follows of them."""
        return [(low, high, joined(low, high)) for low in self.lows for high in self.highs]


def joined(low, high):
    """The row that follows of two bounds of a name."""
    row = {0: high[0] * low[2] + low[0] * high[2]}
    for name, factor in low[1]:
        row[name] = high[0] * factor
    for name, factor in high[1]:
        row[name] = row.get(name, 0) + low[0] * factor
    return row


def dark(pair):
    """The row with which there surely is a number between the two bounds of a pair."""
    low, high, row = pair
    return shifted(row, -(low[0] - 1) * (high[0] - 1))


def is_dark(pair, rest):
    """Whether the dark row of a pair asks no more than its row and the rest of the table do."""
    weak = table_of([pair[2]])
    strict = table_of([dark(pair)])
    if weak == strict:
        return True
    return strict is not None and not [key for key in strict if key not in rest or rest[key] > strict[key]]


def without(table, strike):
    """The rows of a table in which a name does not stand."""
    gone = {row[1]: True for row in strike.lows + strike.highs}
    return {key: added for key, added in table.items() if key not in gone}


def joined_table(table, rows):
    """A table with more rows, or None if they can never hold."""
    whole = dict(table)
    for row in rows:
        if not insert_row(whole, row):
            return None
    return whole


def splinters(pairs):
    """For each least bound of pairs that are not dark, its row and up to what it has to be tried, beside the shadow."""
    furthest = {}
    rows = {}
    for low, high, _ in pairs:
        last = (low[0] * high[0] - low[0] - high[0]) // high[0]
        furthest[low[1]] = max(last, furthest.get(low[1], 0))
        rows[low[1]] = row_of(low[1], low[2])
    return [(rows[key], last) for key, last in furthest.items()]


def struck_table(table, strike):
    """The table without a name, with all rows that follow of its bounds."""
    return joined_table(without(table, strike), [row for _, _, row in strike.pairs()])


def struck_exactly(system, strike):
    """The system without a name that is struck out exactly."""
    return system.with_table(struck_table(system.table, strike))
