"""Verdicts on bins for all lengths and sizes, and on maps for all bits that there may be."""

from tagblocks.binfindings import findings_of
from tagblocks.checks import check_number, check_promise
from tagblocks.mapfindings import MAP_PROMISES, map_findings_of
from tagblocks.spans import count_in, first_in, spans_without

BIN_PROMISES = ("inside", "safe", "found", "again", "order")


def bin_wrong(bins, promise, n):
    """The least length from one on at which bins break a promise, or None."""
    check_promise(promise, BIN_PROMISES)
    check_number(n)
    return first_in(findings_of(bins).row_for(promise), n)


def bin_right(bins, promise, n):
    """The least length from one on at which bins do not break a promise, or None."""
    check_promise(promise, BIN_PROMISES)
    check_number(n)
    found = findings_of(bins)
    return first_in(spans_without([(1, found.last_length)], found.row_for(promise)), n)


def bin_many(bins, promise, n):
    """At how many lengths up to one bins break a promise."""
    check_promise(promise, BIN_PROMISES)
    check_number(n)
    return count_in(findings_of(bins).row_for(promise), n)


def bin_keeps(bins, promise):
    """Whether bins keep a promise."""
    return bin_wrong(bins, promise, 0) is None


def bin_kept(bins):
    """The promises that bins keep."""
    return tuple([promise for promise in BIN_PROMISES if bin_keeps(bins, promise)])


def bin_case(bins, promise):
    """The least length at which bins break a promise, with a size that shows it, or None."""
    n = bin_wrong(bins, promise, 0)
    return None if n is None else (n, findings_of(bins).shown_by(promise, n))


def bin_floor(bins, number):
    """The least size in use whose bin is a number or above it, or None."""
    check_number(number)
    return findings_of(bins).floor_of(number)


def bin_ceiling(bins, number):
    """The greatest size in use whose bin is below a number, or None."""
    check_number(number)
    return findings_of(bins).ceiling_of(number)


def ask_floor(bins, number):
    """The least length whose ask is done and tells a bin that is a number or above it, or None."""
    check_number(number)
    told = [piece.low for piece in findings_of(bins).lengths if piece.number is not None and piece.number >= number]
    return told[0] if told else None


def map_wrong(maps, promise, number):
    """The least bin from one on at which maps break a promise, or None."""
    check_promise(promise, MAP_PROMISES)
    check_number(number)
    return map_findings_of(maps).least_from(promise, number)


def map_right(maps, promise, number):
    """The least bin from one on at which maps do not break a promise, or None."""
    check_promise(promise, MAP_PROMISES)
    check_number(number)
    return map_findings_of(maps).least_right(promise, number)


def map_keeps(maps, promise):
    """Whether maps keep a promise."""
    return map_wrong(maps, promise, 0) is None


def map_kept(maps):
    """The promises that maps keep."""
    return tuple([promise for promise in MAP_PROMISES if map_keeps(maps, promise)])


def map_case(maps, promise):
    """The least bin at which maps break a promise, with the first kind that does and words that show it; or None."""
    number = map_wrong(maps, promise, 0)
    if number is None:
        return None
    kind, words = map_findings_of(maps).breach_at(promise, number)
    return (kind, words, number)
