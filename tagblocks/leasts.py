"""The least numbers that forms can be where rows hold."""

from tagblocks.forms import level, plus
from tagblocks.reducing import ends_of
from tagblocks.systems import table_of


def least_name(rows, name, low, high, solved):
    """The least number from one to another one (None for no end) that a name can be where rows hold, or None."""
    whole = [*rows, {0: -low, name: 1}]
    if high is not None:
        whole.append({0: high, name: -1})
    if not solved.can_hold(whole):
        return None
    # What follows of the rows for a name without whole numbers in mind is mostly just its least number.
    first = ends_of(table_of(whole), name)[0]
    if solved.can_hold([*rows, *level({0: -first, name: 1})]):
        return first
    step = 1
    first += 1
    while not (solved.is_given_up or solved.can_hold([*rows, {0: -first, name: 1}, {0: first + step, name: -1}])):
        first += step + 1
        step = 2 * step
    last = first + step
    while first < last:
        middle = (first + last) // 2
        if solved.can_hold([*rows, {0: -first, name: 1}, {0: middle, name: -1}]):
            last = middle
        else:
            first = middle + 1
    return first


def least_worth(rows, form, low, high, solved):
    """The least number from one to another one (None for no end) that a form can be where rows hold, or None."""
    names = [name for name in form if name]
    added = form.get(0, 0)
    if not names:
        is_between = low <= added and (high is None or added <= high)
        return added if is_between and solved.can_hold(rows) else None
    if len(names) == 1 and form[names[0]] > 0:
        factor = form[names[0]]
        top = None if high is None else (high - added) // factor
        found = least_name(rows, names[0], -((added - low) // factor), top, solved)
        return None if found is None else added + factor * found
    name = max([one for row in [form, *rows] for one in row]) + 1
    told = level(plus({0: 0, name: 1}, -1, form))
    return least_name([*rows, *told], name, low, high, solved)


def least_of_systems(systems, low, high, solved):
    """The least number from one on that some forms can be, pairs of rows and a form, each where its rows hold; or None.

    Told with it are the rows of which system it is.
    """
    best = None
    for rows, form in systems:
        top = high if best is None else best[0] - 1
        found = least_worth(rows, form, low, top, solved)
        if found is not None:
            best = (found, rows)
    return best
