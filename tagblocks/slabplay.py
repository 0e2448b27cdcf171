"""Plays of slab codes on sizes and on pages that are right."""

from tagblocks.errors import BadCase, BadNumber, BadSize, OtherKinds
from tagblocks.headrules import is_between
from tagblocks.slabmachine import Page, play_lay, play_page


class LayTold:
    """What a play of lay told: how it ended, how many places and map words."""

    def __init__(self, rules, code, size):
        machine, self.ended = play_lay(rules, code, size)
        self.many = machine.worths["many"]
        self.maps = machine.worths["maps"]


class PageTold:
    """What a play of take or back told, and how it left the page."""

    def __init__(self, rules, code, case, at):
        page = Page(case[0], rules.least_maps(case[0]), case[1])
        machine, self.ended = play_page(rules, code, page, at)
        self.number = machine.worths["number"] if machine.has_number else None
        self.at = machine.worths["at"]
        self.used = page.used
        self.marked = tuple(sorted(page.marked))
        self.is_listed = page.is_listed
        self.is_dropped = page.is_dropped


def check_kind(code, kind):
    """Raises OtherKinds for a code of another kind."""
    if code.kind != kind:
        raise OtherKinds("slabs")


def is_slab_case(rules, case):
    """Whether a value tells a page that is right: how many places it has, and which ones are lent."""
    if not isinstance(case, tuple) or len(case) != 2 or not isinstance(case[1], tuple):
        return False
    if not is_between(case[0], 1, rules.places_for(rules.top)):
        return False
    least = 0
    for place in case[1]:
        if not is_between(place, least, case[0] - 1):
            return False
        least = place + 1
    return True


def lay_play(rules, code, size):
    """The play of a lay code on a size."""
    check_kind(code, "lay")
    if not rules.is_size(size):
        raise BadSize(size)
    return LayTold(rules, code, size)


def take_play(rules, code, case):
    """The play of a take code on a page."""
    check_kind(code, "take")
    if not is_slab_case(rules, case):
        raise BadCase(case)
    return PageTold(rules, code, case, 0)


def back_play(rules, code, case, at):
    """The play of a back code on a page, for an address."""
    check_kind(code, "back")
    if not is_slab_case(rules, case):
        raise BadCase(case)
    if not is_between(at, 0, rules.top):
        raise BadNumber(at)
    return PageTold(rules, code, case, at)
