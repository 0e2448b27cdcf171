"""Rows of spans: pairs of a least and a greatest number, ascending and apart."""


def joined_spans(spans):
    """The same numbers as in some spans, some of which may be empty or meet, as a row."""
    row = []
    for low, high in sorted(spans):
        if low > high:
            continue
        if row and low <= row[-1][1] + 1:
            row[-1] = (row[-1][0], max(high, row[-1][1]))
        else:
            row.append((low, high))
    return row


def spans_without(spans, others):
    """The numbers of a row that are not in another row."""
    rest = []
    at = 0
    for low, high in spans:
        while at < len(others) and others[at][1] < low:
            at += 1
        k = at
        while k < len(others) and others[k][0] <= high:
            if others[k][0] > low:
                rest.append((low, others[k][0] - 1))
            low = others[k][1] + 1
            k += 1
        if low <= high:
            rest.append((low, high))
    return rest


def first_in(spans, number):
    """The least number of a row from one on, or None."""
    for low, high in spans:
        if number <= high:
            return max(low, number)
    return None


def count_in(spans, last):
    """How many numbers of a row there are up to a last one."""
    return sum([min(high, last) - low + 1 for low, high in spans if low <= last])
