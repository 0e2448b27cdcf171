"""Verdicts on slab codes for all sizes in use, and for all pages that are right and all addresses."""

from tagblocks.checks import check_number, check_promise
from tagblocks.errors import BadSize
from tagblocks.slabfindings import slab_findings_of
from tagblocks.slabjudge import PROMISES
from tagblocks.slabmachine import play_lay

# A code is right where none of its promises but these is broken.
NOT_ASKED = ("odd", "twice")


def slab_break(rules, code, promise, number):
    """The least size in use, or number of places, from one on at which a promise is broken, or None."""
    check_promise(promise, PROMISES[code.kind])
    check_number(number)
    return slab_findings_of(rules, code).least_from(promise, number)


def slab_keeps(rules, code, promise):
    """Whether a code keeps a promise."""
    check_promise(promise, PROMISES[code.kind])
    return len(slab_findings_of(rules, code).systems_for(promise)) == 0


def slab_kept(rules, code):
    """The promises that a code keeps."""
    return tuple([promise for promise in PROMISES[code.kind] if slab_keeps(rules, code, promise)])


def slab_case(rules, code, promise):
    """The least case with which a promise is broken: a size, or how many places, lent ones, and what is handed."""
    check_promise(promise, PROMISES[code.kind])
    return slab_findings_of(rules, code).least_case(promise)


def next_wrong(rules, code, number):
    """The least size or number of places from one on at which a code is not right, or None."""
    asked = [promise for promise in PROMISES[code.kind] if promise not in NOT_ASKED]
    found = [slab_findings_of(rules, code).least_from(promise, number) for promise in asked]
    found = [one for one in found if one is not None]
    return min(found) if found else None


def slab_right_at(rules, code, number):
    """Whether a code is right at a size, or a number of places."""
    check_number(number)
    return next_wrong(rules, code, number) != number


def next_wrong_places(slab, many):
    """The least number of places from one on at which take or back is not right, or None."""
    found = [next_wrong(slab.rules, code, many) for code in (slab.take, slab.back)]
    found = [one for one in found if one is not None]
    return min(found) if found else None


def slab_wrong(slab, size):
    """The least size in use from one on at which a slab is not right, or None."""
    check_number(size)
    rules = slab.rules
    size = max(size, rules.head + 1 + rules.each)
    if size > rules.top:
        return None
    found = [next_wrong(rules, slab.lay, size)]
    # Where lay is right, the number of places is the greatest one, which grows with the size.
    many = next_wrong_places(slab, rules.places_for(size))
    if many is not None:
        found.append(max(size, rules.least_size(many)))
    found = [one for one in found if one is not None]
    return min(found) if found else None


def slab_is_right(slab, size):
    """Whether a slab is right at a size in use."""
    if not slab.rules.is_size(size):
        raise BadSize(size)
    if not slab_right_at(slab.rules, slab.lay, size):
        return False
    machine, _ = play_lay(slab.rules, slab.lay, size)
    return next_wrong_places(slab, machine.worths["many"]) != machine.worths["many"]
