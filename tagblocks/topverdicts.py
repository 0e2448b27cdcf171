"""Verdicts on top codes, for all cases, and on whether memory swings."""

from tagblocks.checks import check_number, check_promise
from tagblocks.errors import OtherKinds, OtherRules
from tagblocks.topfindings import SwingFindings, top_findings_of
from tagblocks.topjudge import TOP_PROMISES


def top_next_wrong(code, promise, number):
    """The least need (of a trim code: top at the start) from one on at which a promise is broken, or None."""
    check_promise(promise, TOP_PROMISES[code.kind])
    check_number(number)
    return top_findings_of(code).least_from(promise, number)


def top_keeps(code, promise):
    """Whether a code keeps a promise."""
    check_promise(promise, TOP_PROMISES[code.kind])
    return len(top_findings_of(code).systems_for(promise)) == 0


def top_kept(code):
    """The promises that a code keeps."""
    return tuple([promise for promise in TOP_PROMISES[code.kind] if top_keeps(code, promise)])


def least_top_case(code, promise):
    """The least case that breaks a promise, or None."""
    check_promise(promise, TOP_PROMISES[code.kind])
    return top_findings_of(code).least_case(promise)


def top_is_right(code, number):
    """Whether a code breaks no promise at a need (of a trim code: at a top)."""
    check_number(number)
    found = [top_next_wrong(code, promise, number) for promise in TOP_PROMISES[code.kind]]
    return number not in found


def check_pair(grow, trim):
    """Raises errors for codes that are not one for growing and one for trimming by equal rules."""
    if grow.kind != "grow" or trim.kind != "trim":
        raise OtherKinds("top")
    if grow.rules != trim.rules:
        raise OtherRules("top")


def least_swing(grow, trim, number=0):
    """The least need from one on at which two codes swing, or None."""
    check_pair(grow, trim)
    check_number(number)
    return SwingFindings(grow, trim).least_from(number)


def swing_case(grow, trim):
    """The least case with which two codes swing, or None."""
    check_pair(grow, trim)
    return SwingFindings(grow, trim).least_case()
