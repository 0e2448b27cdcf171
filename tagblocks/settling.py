"""Settling a table: its ranges are made short by its rows, and rows that follow of the ranges are left out."""

MANY_ROUNDS = 4


def range_of(table, name):
    """The least and the greatest number of a name that its own rows let; None for no end."""
    low = table.get(((name, 1),))
    return (None if low is None else -low, table.get(((name, -1),)))


class Ranges:
    """The least and the greatest number of each name, as far as they are known."""

    def __init__(self, table):
        self.lows = {}
        self.highs = {}
        for key, added in table.items():
            if len(key) == 1:
                name, factor = key[0]
                if factor > 0:
                    self.lows[name] = -added
                else:
                    self.highs[name] = added

    def greatest_parts(self, key):
        """For each name of a row the greatest number that its factor times it can be, or None."""
        lows, highs = self.lows, self.highs
        parts = []
        for name, factor in key:
            end = highs.get(name) if factor > 0 else lows.get(name)
            parts.append(None if end is None else factor * end)
        return parts

    def tighten(self, key, added):
        """Takes from a row what it says of the ranges of its names; None if it cannot hold, else if it said more."""
        parts = self.greatest_parts(key)
        many_open = parts.count(None)
        if many_open > 1:
            return False
        is_more = False
        known = added + sum([part for part in parts if part is not None])
        for (name, factor), part in zip(key, parts):
            if many_open == 1 and part is not None:
                continue
            rest = known if part is None else known - part
            said = self.note(name, factor, rest)
            if said is None:
                return None
            is_more = is_more or said
        return is_more

    def note(self, name, factor, rest):
        """Takes that a factor times a name and a rest are 0 or more; None if that cannot be, else if it says more."""
        low, high = self.lows.get(name), self.highs.get(name)
        if factor > 0:
            least = -(rest // factor)
            if low is not None and low >= least:
                return False
            self.lows[name] = low = least
        else:
            most = rest // -factor
            if high is not None and high <= most:
                return False
            self.highs[name] = high = most
        return None if low is not None and high is not None and low > high else True

    def follows(self, key, added):
        """Whether a row follows of the ranges of its names."""
        least = added
        for name, factor in key:
            end = self.lows.get(name) if factor > 0 else self.highs.get(name)
            if end is None:
                return False
            least += factor * end
        return least >= 0

    def told_rows(self):
        """The rows that tell the ranges, with what is added."""
        found = {((name, 1),): -low for name, low in self.lows.items()}
        for name, high in self.highs.items():
            found[((name, -1),)] = high
        return found


def settled(table):
    """A table that says the same, with shorter ranges and without rows that follow of these; None if it never holds."""
    ranges = Ranges(table)
    longer = [(key, added) for key, added in table.items() if len(key) > 1]
    for _ in range(MANY_ROUNDS):
        is_more = False
        for key, added in longer:
            said = ranges.tighten(key, added)
            if said is None:
                return None
            is_more = is_more or said
        if not is_more:
            break
    whole = ranges.told_rows()
    for key, added in longer:
        if not ranges.follows(key, added):
            whole[key] = added
    return whole
