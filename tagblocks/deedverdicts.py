"""Verdicts on deeds, for all pieces, all lengths, all honest rows of outcomes and all rooms."""

from tagblocks.checks import check_promise
from tagblocks.deedfindings import deed_findings_of, least_meeting
from tagblocks.deedjudge import DEED_PROMISES
from tagblocks.errors import BadKind, BadNumber, OtherKinds, OtherRules
from tagblocks.texts import is_among, is_from

SORTS = ("place", "block")


def check_from_one(number):
    """Raises BadNumber for a value that is no integer from 1 on."""
    if not is_from(number, 1):
        raise BadNumber(number)


def check_other_kind(deed, kind):
    """Raises OtherKinds for a deed of a kind."""
    if deed.code.kind == kind:
        raise OtherKinds("deeds")


def check_sort(sort):
    """Raises BadKind for a value that is no sort of pieces."""
    if not is_among(sort, SORTS):
        raise BadKind(sort)


def deed_keeps(deed, promise):
    """Whether a deed keeps a promise."""
    check_promise(promise, DEED_PROMISES)
    return len(deed_findings_of(deed).systems_for(promise)) == 0


def deed_kept(deed):
    """The promises that a deed keeps."""
    return tuple([promise for promise in DEED_PROMISES if deed_keeps(deed, promise)])


def deed_next_wrong(deed, promise, n):
    """The least length from one on at which a deed breaks a promise, or None."""
    check_promise(promise, DEED_PROMISES)
    check_other_kind(deed, "back")
    check_from_one(n)
    return deed_findings_of(deed).lengths_for(promise).least_from(n)


def deed_next_piece(deed, promise, sort, room):
    """The least room, from one on, of a piece own of a sort with which a deed breaks a promise, or None."""
    check_promise(promise, DEED_PROMISES)
    check_other_kind(deed, "ask")
    check_sort(sort)
    check_from_one(room)
    return deed_findings_of(deed).own_rooms_for(promise, sort).least_from(room)


def deed_case(deed, promise, n=1):
    """A piece own, a length and answers with which a deed breaks a promise: the least length, then the least room."""
    check_promise(promise, DEED_PROMISES)
    check_from_one(n)
    return deed_findings_of(deed).least_case(promise, n)


def deed_next_handed(deed, sort, room):
    """The least room, from one on, of a piece of a sort that a deed hands out, or None."""
    check_other_kind(deed, "back")
    check_sort(sort)
    check_from_one(room)
    return deed_findings_of(deed).handed_rooms(sort).least_from(room)


def deeds_meet(one, other, promise):
    """The piece with the least room that a deed hands out and with which another one breaks a promise, or None."""
    check_promise(promise, DEED_PROMISES)
    check_other_kind(one, "back")
    check_other_kind(other, "ask")
    if one.rules != other.rules:
        raise OtherRules("deeds")
    best = None
    for sort in SORTS:
        handed = deed_findings_of(one).handed_rooms(sort)
        room = least_meeting(handed, deed_findings_of(other).own_rooms_for(promise, sort))
        if room is not None and (best is None or room < best[1]):
            best = (sort, room)
    return best
