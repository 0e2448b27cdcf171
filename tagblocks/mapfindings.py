"""What is found of maps: for each bin the promises that are broken for some bits, and bits that show it."""

from tagblocks.mapmachine import roof_of, start_machine, word_masks, worth_of_masks

MAP_PROMISES = ("inside", "true", "least", "kept")


def ended_plays(maps, kind, number):
    """All plays of the code of a kind for a bin: each for all bits of which something is known."""
    bit = 1 << number
    zeros, ones = (bit if kind == "mark" else 0), (bit if kind == "clear" else 0)
    waiting = [start_machine(maps, kind, number, zeros, ones)]
    ended = []
    while waiting:
        machine = waiting.pop()
        machine.advance()
        if machine.choices is None:
            ended.append(machine)
        else:
            waiting.extend([machine.branch(known) for known in machine.choices])
    return ended


def breaches_of(machine, kind, number):
    """The promises that a play breaks for some bits, and what is known then."""
    if kind == "find":
        return breaches_of_find(machine, number)
    return breaches_of_change(machine, kind, number)


def breaches_of_find(machine, number):
    """The promises that a play of find breaks for some bits, and what is known then."""
    known = machine.known
    bins = machine.rules.bins
    from_here = ((1 << bins) - 1) >> number << number
    if machine.ended == "beyond":
        return [("inside", known)]
    if machine.ended == "refused":
        return [] if known.is_zero(from_here) else [("true", known)]
    told = machine.told
    unset = known.with_answer(1 << told, 0) if number <= told < bins else known
    broken = [] if unset is None else [("true", unset)]
    passed = from_here & ((1 << min(max(told, 0), bins)) - 1)
    return broken if known.is_zero(passed) else [*broken, ("least", known)]


def breaches_of_change(machine, kind, number):
    """Where a play of mark or clear breaks a promise, and what is known there."""
    if machine.ended == "beyond":
        return [("inside", machine.known)]
    rules = machine.rules
    words = [list(word_masks(rules, at)) for at in range(rules.words)]
    words[number // rules.wide][number % rules.wide] = 1 << rules.bins if kind == "mark" else 0
    owed = [mask for masks in words for mask in masks] + list(roof_of(rules, words))
    found = [mask for masks in machine.words for mask in masks] + list(machine.roof)
    for one, other in zip(found, owed):
        if one != other:
            known = parting(machine.known, one, other)
            if known is not None:
                return [("kept", known)]
    return []


def parting(known, one, other):
    """What is known where one of two masks has a bin that is set, but the other one has none; or None."""
    for mask, empty in ((one, other), (other, one)):
        found = known.with_answer(empty, mask) if mask else None
        if found is not None:
            return found
    return None


class MapFindings:
    """For each kind and bin the promises that some play breaks, with words that show it; plays are made once."""

    def __init__(self, maps):
        self.maps = maps
        self.shown = {}

    def breach_at(self, promise, number):
        """The kind and the words with which a promise is broken at a bin, or None."""
        kinds = ("find", "mark", "clear")
        if promise in ("true", "least"):
            kinds = ("find",)
        elif promise == "kept":
            kinds = ("mark", "clear")
        for kind in kinds:
            found = self.play_all(kind, number)
            if promise in found:
                return (kind, found[promise])
        return None

    def play_all(self, kind, number):
        """For each promise that plays of a kind break at a bin the words that show it."""
        if (kind, number) not in self.shown:
            found = {}
            for machine in ended_plays(self.maps, kind, number):
                for promise, known in breaches_of(machine, kind, number):
                    found.setdefault(promise, self.words_where(known))
            self.shown[(kind, number)] = found
        return self.shown[(kind, number)]

    def words_where(self, known):
        """Words for which all holds that is known: all bins are set that can be."""
        rules = self.maps.rules
        return tuple([worth_of_masks(word_masks(rules, at), ~known.zeros) for at in range(rules.words)])


def map_findings_of(maps):
    """What is found of maps; it is looked for once."""
    if maps.findings is None:
        maps.findings = MapFindings(maps)
    return maps.findings
