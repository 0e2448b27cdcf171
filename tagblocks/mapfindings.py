"""What is found of maps: for each bin the promises that are broken for some bits, and bits that show it."""

from tagblocks.mapquestions import MapGoals
from tagblocks.mapmachine import more_told, roof_of, start_knowledge, start_machine, start_words, worth_of_masks

MAP_PROMISES = ("inside", "true", "least", "kept")
# The kinds of codes that can break a promise.
KINDS_FOR = {"inside": ("find", "mark", "clear"), "true": ("find",), "least": ("find",), "kept": ("mark", "clear")}
# So many plays of a kind, and for each bin, are looked at one by one; where there are more, all are put into a circuit.
MOST_PLAYS = 50000
MOST_FOR_BIN = 4000


def breaches_of_find(machine, number):
    """The promises that a play of find breaks for some bits, and what is known then."""
    known = machine.known
    bins = machine.rules.bins
    from_here = ((1 << bins) - 1) >> number << number
    if machine.ended == "beyond":
        return [("inside", known)]
    if machine.ended == "refused":
        return [] if known.is_zero(from_here) else [("true", known)]
    told = machine.told
    unset = known.with_answer(1 << told, 0) if number <= told < bins else known
    broken = [] if unset is None else [("true", unset)]
    passed = from_here & ((1 << min(max(told, 0), bins)) - 1)
    return broken if known.is_zero(passed) else [*broken, ("least", known)]


def open_answers(machine, kind, number):
    """The answers with which a play that waits can break a promise.

    Of many plays of find nothing is left but to tell the first bit of a word: what breaks nothing needs no play.
    """
    more = more_told(machine) if kind == "find" and machine.awaited is not None else None
    if more is None:
        return machine.answers
    zeros = machine.known.zeros
    bins = machine.rules.bins
    from_here = ((1 << bins) - 1) >> number << number
    found = []
    for (passed, mask), at in zip(machine.answers, machine.bits):
        told = at + more
        is_bin = number <= told < bins and mask == 1 << told
        if not is_bin or from_here & (mask - 1) & ~(zeros | passed):
            found.append((passed, mask))
    return found


def breaches_of_change(machine, kind, number, words, roof):
    """Where a play of mark or clear on words and their roof breaks a promise, and what is known there."""
    if machine.ended == "beyond":
        return [("inside", machine.known)]
    rules = machine.rules
    own, at = number // rules.wide, number % rules.wide
    bit = 1 << rules.bins if kind == "mark" else 0
    changed = (*words[own][:at], bit, *words[own][at + 1:])
    whole = 0
    for mask in changed:
        whole = whole | mask
    owed = [*words[:own], changed, *words[own + 1:], (*roof[:own], whole, *roof[own + 1:])]
    for found, right in zip([*machine.words, machine.roof], owed):
        if found != right:
            for one, other in zip(found, right):
                known = parting(machine.known, one, other) if one != other else None
                if known is not None:
                    return [("kept", known)]
    return []


def parting(known, one, other):
    """What is known where one of two masks has a bin that is set, but the other one has none; or None."""
    for mask, empty in ((one, other), (other, one)):
        found = known.with_answer(empty, mask) if mask else None
        if found is not None:
            return found
    return None


class Explored:
    """The plays of the code of a kind for a bin, looked at one by one, and the promises that those seen so far break.

    Each play is one for all bits of which something is known; it waits where it has to know more. words has for each
    broken promise words that show it.
    """

    def __init__(self, maps, kind, number, words, roof):
        own = 1 << number
        self.rules = maps.rules
        self.kind = kind
        self.number = number
        self.start = words
        self.roof = roof
        self.words = {}
        # Mark is handed a bin that is not set, clear one that is.
        known = start_knowledge(self.rules, own if kind == "mark" else 0, own if kind == "clear" else 0)
        self.waiting = [start_machine(maps, kind, number, known, words, roof)]

    def look_for(self, promise, most):
        """Looks at plays until one breaks a promise, or so many were looked at; how many were."""
        many = 0
        while promise not in self.words and self.waiting and many < most:
            machine = self.waiting.pop()
            machine.advance()
            many += 1
            if machine.answers is not None:
                self.waiting.extend(machine.answered(open_answers(machine, self.kind, self.number)))
            else:
                for broken, known in self.breaches_of(machine):
                    self.words.setdefault(broken, self.words_where(known))
        return many

    def breaches_of(self, machine):
        """The promises that a play breaks for some bits, and what is known then."""
        if self.kind == "find":
            return breaches_of_find(machine, self.number)
        return breaches_of_change(machine, self.kind, self.number, self.start, self.roof)

    def is_open(self, promise):
        """Whether it is open if some play breaks a promise."""
        return promise not in self.words and len(self.waiting) > 0

    def words_where(self, known):
        """Words for which all holds that is known: all bins are set that can be."""
        return tuple([worth_of_masks(masks, ~known.zeros) for masks in self.start])


class MapFindings:
    """What was found of maps so far, for each kind and bin; goals has the circuits of kinds with very many plays."""

    def __init__(self, maps):
        self.maps = maps
        self.words = start_words(maps.rules)
        self.roof = roof_of(maps.rules, self.words)
        self.explored = {}
        self.left = {kind: MOST_PLAYS for kind in KINDS_FOR["inside"]}
        self.goals = {}

    def words_at(self, kind, promise, number):
        """Words that show that the code of a kind breaks a promise at a bin, or None."""
        if kind not in self.goals:
            if (kind, number) not in self.explored:
                self.explored[(kind, number)] = Explored(self.maps, kind, number, self.words, self.roof)
            found = self.explored[(kind, number)]
            self.left[kind] -= found.look_for(promise, min(self.left[kind], MOST_FOR_BIN))
            if not found.is_open(promise):
                return found.words.get(promise)
            self.goals[kind] = MapGoals(self.maps, kind)
        return self.goals[kind].words_at(promise, number)

    def breach_at(self, promise, number):
        """The first kind with which a promise is broken at a bin, and words that show it; or None."""
        for kind in KINDS_FOR[promise]:
            words = self.words_at(kind, promise, number)
            if words is not None:
                return (kind, words)
        return None

    def least_from(self, promise, number):
        """The least bin from one on at which a promise is broken, or None."""
        least = [self.least_for_kind(kind, promise, number) for kind in KINDS_FOR[promise]]
        return min([one for one in least if one is not None], default=None)

    def least_for_kind(self, kind, promise, number):
        """The least bin from one on at which the code of a kind breaks a promise, or None."""
        for one in range(number, self.maps.rules.bins):
            if kind in self.goals:
                return self.goals[kind].least_from(promise, one)
            if self.words_at(kind, promise, one) is not None:
                return one
        return None

    def least_right(self, promise, number):
        """The least bin from one on at which a promise is not broken, or None."""
        for one in range(number, self.maps.rules.bins):
            if self.breach_at(promise, one) is None:
                return one
        return None


def map_findings_of(maps):
    """What is found of maps; it is looked for once."""
    if maps.findings is None:
        maps.findings = MapFindings(maps)
    return maps.findings
