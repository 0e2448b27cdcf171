"""Plays of the codes of bins: class codes on a size or a length, and map codes on the bits of a map."""

from tagblocks.bincodes import MAP_KINDS
from tagblocks.errors import BadKind, BadMap, BadNumber
from tagblocks.headrules import is_between
from tagblocks.mapmachine import roof_of, start_knowledge, start_machine, start_words, word_masks, worth_of_masks
from tagblocks.runs import compared_plainly, plain_sum, run_through
from tagblocks.texts import is_among

MOST_DOWN = 999


class ClassMachine:
    """The registers of a play of a class code, whether it met look, and what its comparisons and bits came to."""

    def __init__(self, code, rules, number):
        self.worths = {"a": 0, "b": 0, "c": 0, "bin": 0, "last": rules.bins - 1, "size": number, "len": number}
        self.is_looking = False
        self.trace = []
        run = run_through(code.outline, self)
        self.ended = run.ended
        if run.ended == "beyond":
            self.trace.append(("beyond", run.played[-1]))

    def part_holds(self, part):
        """Whether a part of a test holds."""
        held = compared_plainly(part, self.worths)
        if part[0] == "is":
            self.trace.append(compared_plainly(("<", part[1], part[2]), self.worths))
        self.trace.append(held)
        return held

    def play_step(self, step):
        """Plays a line; whether it was not beyond."""
        if step[0] == "look":
            self.is_looking = True
            return True
        worth = plain_sum(step[2], self.worths)
        if step[0] == "bits":
            if worth < 0:
                return False
            worth = worth.bit_length()
            self.trace.append(worth)
        elif step[0] == "times":
            worth = worth * step[3]
        elif step[0] == "divided":
            worth = worth // step[3]
        elif step[0] == "down":
            if not is_between(self.worths[step[3]], 0, MOST_DOWN):
                return False
            worth = worth >> self.worths[step[3]]
        self.worths[step[1]] = worth
        return True


class BinPlay:
    """A play of a class code: how it ended, the bin that it tells, and whether it met look."""

    def __init__(self, code, rules, number):
        machine = ClassMachine(code, rules, number)
        self.ended = machine.ended
        if self.ended == "done" and not is_between(machine.worths["bin"], 0, rules.bins - 1):
            self.ended = "beyond"
        self.number = machine.worths["bin"] if self.ended == "done" else None
        self.is_looking = self.ended == "done" and machine.is_looking


def play_hang(bins, size):
    """The play of the code that leads from sizes to bins."""
    rules = bins.rules
    if not is_between(size, rules.least, rules.most) or size % rules.unit != 0:
        raise BadNumber(size)
    return BinPlay(bins.hangs, rules, size)


def play_ask(bins, n):
    """The play of the code that leads from lengths to bins."""
    if not is_between(n, 1, bins.rules.most - bins.rules.over):
        raise BadNumber(n)
    return BinPlay(bins.asks, bins.rules, n)


class MapPlay:
    """A play of a map code: how it ended, what find tells, and the words and the roof behind it."""

    def __init__(self, maps, kind, words, number):
        rules = maps.rules
        ones = sum([word << (at * rules.wide) for at, word in enumerate(words)])
        always = 1 << rules.bins
        start = start_words(rules)
        known = start_knowledge(rules, (always - 1) & ~ones, ones)
        machine = start_machine(maps, kind, number, known, start, roof_of(rules, start))
        machine.advance()
        self.ended = machine.ended
        self.number = machine.told
        self.words = tuple([worth_of_masks(machine.words[at], ones | always) for at in range(rules.words)])
        self.roof = worth_of_masks(machine.roof, ones | always)


def first_bad_word(rules, words):
    """The index of the first of some words that is no number with bits of bins alone, or None."""
    for at, word in enumerate(words):
        top = sum([1 << bit for bit, mask in enumerate(word_masks(rules, at)) if mask])
        if not is_between(word, 0, top) or word & ~top:
            return at
    return None


def play_map(maps, kind, words, number):
    """The play of the map code of a kind on words, for a bin."""
    rules = maps.rules
    if not is_among(kind, MAP_KINDS):
        raise BadKind(kind)
    if not isinstance(words, tuple) or len(words) != rules.words:
        raise BadMap(len(words) if isinstance(words, tuple) else 0)
    bad = first_bad_word(rules, words)
    if bad is not None:
        raise BadMap(bad)
    if not is_between(number, 0, rules.bins - 1):
        raise BadNumber(number)
    is_set = words[number // rules.wide] >> (number % rules.wide) & 1 == 1
    if (kind == "mark" and is_set) or (kind == "clear" and not is_set):
        raise BadNumber(number)
    return MapPlay(maps, kind, words, number)
