"""Verdicts on slab codes for all sizes in use, and for all pages that are right and all addresses."""

from tagblocks.checks import check_number, check_promise
from tagblocks.errors import BadSize
from tagblocks.slabfindings import slab_findings_of
from tagblocks.slabjudge import PROMISES
from tagblocks.slabmachine import play_lay

# A code is right where none of its promises but these is broken.
NOT_ASKED = ("odd", "twice")


def slab_break(rules, code, promise, number):
    """The least size in use, or number of places, from one on at which a promise is broken, or None."""
    check_promise(promise, PROMISES[code.kind])
    check_number(number)
    findings = slab_findings_of(rules, code)
    return findings.least_between(promise, number, findings.last_number())


def slab_keeps(rules, code, promise):
    """Whether a code keeps a promise."""
    check_promise(promise, PROMISES[code.kind])
    return not slab_findings_of(rules, code).can_break(promise)


def slab_kept(rules, code):
    """The promises that a code keeps."""
    return tuple([promise for promise in PROMISES[code.kind] if slab_keeps(rules, code, promise)])


def slab_case(rules, code, promise):
    """The least case with which a promise is broken: a size, or how many places, lent ones, and what is handed."""
    check_promise(promise, PROMISES[code.kind])
    return slab_findings_of(rules, code).least_case(promise)


def next_wrong(rules, code, low, high):
    """The least size or number of places from one to another one at which a code is not right, or None."""
    best = None
    for promise in PROMISES[code.kind]:
        last = high if best is None else best - 1
        if promise not in NOT_ASKED and low <= last:
            found = slab_findings_of(rules, code).least_between(promise, low, last)
            best = best if found is None else found
    return best


def slab_right_at(rules, code, number):
    """Whether a code is right at a size, or a number of places."""
    check_number(number)
    return next_wrong(rules, code, number, number) is None


def next_wrong_places(slab, low, high):
    """The least number of places from one to another one at which take or back is not right, or None."""
    found = next_wrong(slab.rules, slab.take, low, high)
    other = next_wrong(slab.rules, slab.back, low, high if found is None else found - 1)
    return found if other is None else other


def slab_wrong(slab, size):
    """The least size in use from one on at which a slab is not right, or None."""
    check_number(size)
    rules = slab.rules
    size = max(size, rules.head + 1 + rules.each)
    if size > rules.top:
        return None
    found = next_wrong(rules, slab.lay, size, rules.top)
    # Where lay is right, the number of places is the greatest one, which grows with the size.
    last = rules.places_for(rules.top if found is None else found)
    many = next_wrong_places(slab, rules.places_for(size), last)
    if many is None:
        return found
    least = max(size, rules.least_size(many))
    return least if found is None else min(least, found)


def slab_is_right(slab, size):
    """Whether a slab is right at a size in use."""
    if not slab.rules.is_size(size):
        raise BadSize(size)
    if not slab_right_at(slab.rules, slab.lay, size):
        return False
    machine, _ = play_lay(slab.rules, slab.lay, size)
    return next_wrong_places(slab, machine.worths["many"], machine.worths["many"]) is None
