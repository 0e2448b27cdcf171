"""Settling a table: its ranges are made short by its rows, and rows that follow of the ranges are left out."""

from tagblocks.systems import insert_row

MANY_ROUNDS = 4


def range_of(table, name):
    """The least and the greatest number of a name that its own rows let; None for no end."""
    low = table.get(((name, 1),))
    return (None if low is None else -low, table.get(((name, -1),)))


def greatest_part(name, factor, table):
    """The greatest number that a factor times a name can be by its own rows, or None."""
    low, high = range_of(table, name)
    end = high if factor > 0 else low
    return None if end is None else factor * end


def least_of_row(key, added, table):
    """The least number that a row can be by the ranges of its names, or None."""
    parts = [greatest_part(name, -factor, table) for name, factor in key]
    return None if None in parts else added - sum(parts)


def tightened(key, added, table):
    """Takes from a row what it says of the range of each of its names; None if it cannot hold, else if it said more."""
    parts = [greatest_part(name, factor, table) for name, factor in key]
    open_parts = [at for at, part in enumerate(parts) if part is None]
    if len(open_parts) > 1:
        return False
    is_more = False
    known = added + sum([part for part in parts if part is not None])
    for at, (name, factor) in enumerate(key):
        if open_parts and at not in open_parts:
            continue
        rest = known if open_parts else known - parts[at]
        before = range_of(table, name)
        if not insert_row(table, {name: factor, 0: rest}):
            return None
        is_more = is_more or range_of(table, name) != before
    return is_more


def settled(table):
    """A table that says the same, with shorter ranges and without rows that follow of these; None if it never holds."""
    whole = dict(table)
    for _ in range(MANY_ROUNDS):
        is_more = False
        for key, added in table.items():
            if len(key) > 1:
                said = tightened(key, added, whole)
                if said is None:
                    return None
                is_more = is_more or said
        if not is_more:
            break
    return {key: added for key, added in whole.items() if len(key) == 1 or not follows(key, added, whole)}


def follows(key, added, table):
    """Whether a row follows of the ranges of its names."""
    least = least_of_row(key, added, table)
    return least is not None and least >= 0
