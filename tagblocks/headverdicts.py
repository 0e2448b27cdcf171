"""Verdicts on heads and roundings, for all sizes in use and all words."""

from tagblocks.errors import BadNumber, BadPromise, OtherRules
from tagblocks.headquestions import FLAGS, HEAD_PROMISES, NEW_FLAGS, ROUND_PROMISES
from tagblocks.headquestions import HeadBreak, NoneIsSo, RoundBreak, RoundParting, least_with
from tagblocks.plainnumbers import PlainNumbers
from tagblocks.solving import Solved
from tagblocks.texts import is_among, is_from


def check_promise(promise, promises):
    """Raises BadPromise for a value that is none of the promises."""
    if not is_among(promise, promises):
        raise BadPromise(promise)


def check_number(number):
    """Raises BadNumber for a value that is no integer from 0 on."""
    if not is_from(number, 0):
        raise BadNumber(number)


def head_breaks(heads, promise):
    """The questions of which one is so where heads break a promise."""
    kinds = list(NEW_FLAGS) if promise == "marks" else [None]
    return [HeadBreak(heads, promise, used, ahead, kind) for used, ahead in FLAGS for kind in kinds]


def first_of(questions, low, high, unit):
    """The least multiple of unit from one of them to another one at which one of some questions is so, or None."""
    best = None
    solved = Solved()
    for question in questions:
        found = least_with(question, low, high if best is None else best - unit, unit, solved)
        best = best if found is None else found
    return best


def first_size(heads, questions, size):
    """The least size in use from one on at which one of some questions is so, or None."""
    check_number(size)
    low = heads.rules.next_in_use(size)
    if low is None:
        return None
    return first_of(questions, low, heads.rules.last_size(), heads.rules.unit)


def head_break(heads, promise, size):
    """The least size in use from one on at which heads break a promise with some flags, or None."""
    check_promise(promise, HEAD_PROMISES)
    return first_size(heads, head_breaks(heads, promise), size)


def head_keeps(heads, promise):
    """Whether heads keep a promise."""
    return head_break(heads, promise, 0) is None


def head_kept(heads):
    """The promises that heads keep."""
    return tuple([promise for promise in HEAD_PROMISES if head_keeps(heads, promise)])


def all_head_breaks(heads):
    """The questions of which one is so where heads are not right."""
    return [question for promise in HEAD_PROMISES for question in head_breaks(heads, promise)]


def head_wrong(heads, size):
    """The least size in use from one on at which heads are not right, or None."""
    return first_size(heads, all_head_breaks(heads), size)


def head_right(heads, size):
    """The least size in use from one on at which heads are right, or None."""
    return first_size(heads, [NoneIsSo(all_head_breaks(heads))], size)


def head_case(heads, promise):
    """The least size, used and ahead, in this order, with which heads break a promise, or None."""
    size = head_break(heads, promise, 0)
    if size is None:
        return None
    broken = [question for question in head_breaks(heads, promise) if question.is_so(size, PlainNumbers())]
    return (size, broken[0].used, broken[0].ahead)


def first_word(rounding, questions, n):
    """The least word from one on at which one of some questions is so, or None."""
    check_number(n)
    return first_of(questions, n, (1 << rounding.rules.wide) - 1, 1)


def all_round_breaks(rounding):
    """The questions of which one is so where a rounding is not right."""
    return [RoundBreak(rounding, promise) for promise in ROUND_PROMISES]


def round_break(rounding, promise, n):
    """The least length from one on at which a rounding breaks a promise, or None."""
    check_promise(promise, ROUND_PROMISES)
    return first_word(rounding, [RoundBreak(rounding, promise)], n)


def round_keeps(rounding, promise):
    """Whether a rounding keeps a promise."""
    return round_break(rounding, promise, 0) is None


def round_kept(rounding):
    """The promises that a rounding keeps."""
    return tuple([promise for promise in ROUND_PROMISES if round_keeps(rounding, promise)])


def round_wrong(rounding, n):
    """The least length from one on at which a rounding is not right, or None."""
    return first_word(rounding, all_round_breaks(rounding), n)


def round_right(rounding, n):
    """The least length from one on at which a rounding is right, or None."""
    return first_word(rounding, [NoneIsSo(all_round_breaks(rounding))], n)


def round_parting(rounding, other):
    """The least word for which two roundings do not do the same, or None."""
    if rounding.rules != other.rules:
        raise OtherRules("heads")
    return first_word(rounding, [RoundParting(rounding, other)], 0)


def round_alike(rounding, other):
    """Whether two roundings refuse for the same words and tell the same sizes."""
    return round_parting(rounding, other) is None
