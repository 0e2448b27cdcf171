"""Verdicts on move codes, for all lengths in use and all gaps."""

from tagblocks.checks import check_promise
from tagblocks.errors import BadGap, BadLength
from tagblocks.forms import level, negated, plus, shifted
from tagblocks.movefindings import broken_rows, judges_of, len_form, move_findings_of
from tagblocks.movejudge import MOVE_PROMISES
from tagblocks.moveopen import GAP
from tagblocks.solving import Solved, stretches_of
from tagblocks.texts import is_from, is_whole

# A move is right at a length if none of these is broken.
RIGHT_PROMISES = ("inside", "fresh", "whole")


def check_length(length):
    """Raises BadLength for a value that is no integer from 0 on."""
    if not is_from(length, 0):
        raise BadLength(length)


def units_from(code, length):
    """How many units the least length in use from a length on has, with its head."""
    return -(-(max(length, 0) + code.rules.head) // code.rules.unit)


def length_of(code, units):
    """The length of so many units, or None for None."""
    return None if units is None else units * code.rules.unit - code.rules.head


def first_length(code, promises, length, is_broken):
    """The least length in use from one on at which one of some promises is broken, or none is; or None."""
    found = move_findings_of(code).set_for(promises)
    return length_of(code, found.first_number(units_from(code, length), is_broken))


def move_keeps(code, promise):
    """Whether a code keeps a promise."""
    check_promise(promise, MOVE_PROMISES)
    return len(move_findings_of(code).rows_for(promise)) == 0


def move_kept(code):
    """The promises that a code keeps."""
    return tuple([promise for promise in MOVE_PROMISES if move_keeps(code, promise)])


def move_break(code, promise, length):
    """The least length from one on at which some play breaks a promise, or None."""
    check_promise(promise, MOVE_PROMISES)
    check_length(length)
    return first_length(code, (promise,), length, True)


def move_wrong(code, length):
    """The least length in use from one on at which a code is not right, or None."""
    check_length(length)
    return first_length(code, RIGHT_PROMISES, length, True)


def move_right(code, length):
    """The least length in use from one on at which a code is right, or None."""
    check_length(length)
    return first_length(code, RIGHT_PROMISES, length, False)


def move_wrongs(code, length):
    """At how many lengths from 0 to one a code is not right."""
    check_length(length)
    found = move_findings_of(code).set_for(RIGHT_PROMISES)
    return found.count_to((length + code.rules.head) // code.rules.unit)


def gap_from(code, promise, length, form):
    """The least number, from 0 on, that a form of the gap is where plays on a length break a promise, or None."""
    solved = Solved()
    rows = [*level(shifted(len_form(code.rules), -length)), form]
    judges = judges_of(code, rows, solved)
    found = []
    for whole in broken_rows(judges, promise):
        name = max([one for row in whole for one in row]) + 1
        told = level(plus({0: 0, name: 1}, -1, form))
        found = found + [low for low, _, _ in stretches_of([*whole, *told, {0: 0, name: 1}], name)]
    return min(found) if found else None


def move_gap(code, promise, length, gap):
    """The least gap from one on with which the play on a length breaks a promise, or None."""
    check_promise(promise, MOVE_PROMISES)
    if not code.rules.in_use(length):
        raise BadLength(length)
    if not is_whole(gap):
        raise BadGap(gap)
    more = gap_from(code, promise, length, {0: -gap, GAP: 1})
    return None if more is None else gap + more


def move_case(code, promise):
    """The least length with which a promise is broken, and a gap with which it is; or None."""
    length = move_break(code, promise, 0)
    if length is None:
        return None
    above = gap_from(code, promise, length, {0: 0, GAP: 1})
    if above is not None:
        return (length, above)
    return (length, -1 - gap_from(code, promise, length, shifted(negated({0: 0, GAP: 1}), -1)))
