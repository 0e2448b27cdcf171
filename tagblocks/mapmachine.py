"""Plays of map codes on bits of which some are known: what is not known is asked, and all answers are followed.

A bit of a word or of a pattern is a mask of bins: it is set if one of them was set at the start. One more bin, behind
all others, counts as set always. So what a play can learn is that all bins of a mask are not set, or that some are.
"""

from tagblocks.headrules import is_between
from tagblocks.runs import compared_plainly, plain_sum, test_holds
from tagblocks.texts import names_in

# Lines that set a register to what is made of a sum.
RECKONED = ("set", "times", "divided", "rest")


class Knowledge:
    """What is known of the bins: zeros, a mask of those not set, and masks of each of which some bin is set."""

    def __init__(self, zeros, sets):
        self.zeros = zeros
        self.sets = sets

    def is_zero(self, mask):
        """Whether surely no bin of a mask is set."""
        return mask & ~self.zeros == 0

    def is_set(self, mask):
        """Whether surely some bin of a mask is set."""
        for one in self.sets:
            if one & ~self.zeros & ~mask == 0:
                return True
        return False

    def sets_inside(self, masks):
        """Of the masks of each of which some bin is set those that lie in a pattern, without bins that are not set."""
        whole = self.zeros
        for mask in masks:
            whole = whole | mask
        return [one & ~self.zeros for one in self.sets if one & ~whole == 0]

    def with_answer(self, zeros, mask):
        """What is known if no bin of a mask is set, and some of another one (0 for none) is; None if that cannot be."""
        if zeros and self.is_set(zeros):
            return None
        if mask == 0:
            return Knowledge(self.zeros | zeros, self.sets)
        if mask & ~self.zeros & ~zeros == 0:
            return None
        return Knowledge(self.zeros | zeros, (*self.sets, mask))


def start_knowledge(rules, zeros, ones):
    """What is known at the start: two masks of bins, and that the one behind all bins counts as set."""
    sets = [1 << at for at in range(ones.bit_length()) if ones >> at & 1]
    return Knowledge(zeros, (*sets, 1 << rules.bins))


def word_masks(rules, index):
    """The bits of a word at the start: bits that belong to no bin are empty masks."""
    first = index * rules.wide
    return tuple([1 << at if at < rules.bins else 0 for at in range(first, first + rules.wide)])


def roof_of(rules, words):
    """The roof that is right for some words."""
    roof = []
    for masks in words:
        whole = 0
        for mask in masks:
            whole = whole | mask
        roof.append(whole)
    return tuple(roof + [0] * (rules.wide - len(words)))


def worth_of_masks(masks, ones):
    """The number that bits tell where some bins are set."""
    return sum([1 << at for at, mask in enumerate(masks) if mask & ones])


def start_words(rules):
    """The words at the start."""
    return [word_masks(rules, at) for at in range(rules.words)]


def start_machine(maps, kind, number, known, words, roof):
    """The play of the code of a kind for a bin on words and their roof, of whose bins something is known."""
    machine = MapMachine(maps.code_for(kind), maps.rules, known, words, roof)
    machine.worths["bin"] = number
    return machine


def names_read(step):
    """The names of numbers that a step reads."""
    if step[0] == "if":
        return [side for _, part in step[1] if part[0] != "empty" for side in part[1:] if isinstance(side, str)]
    if step[0] in RECKONED:
        return names_in(step[2])
    if step[0] in ("word", "write word", "from", "with", "without", "tell"):
        return [step[-1]] if isinstance(step[-1], str) else []
    return []


def reckoned(step, worths):
    """What a register is set to."""
    worth = plain_sum(step[2], worths)
    if step[0] == "times":
        return worth * step[3]
    if step[0] == "divided":
        return worth // step[3]
    return worth % step[3] if step[0] == "rest" else worth


def more_told(machine):
    """How much more than the awaited first bit find tells, if nothing but sums stand between; otherwise None."""
    outline = machine.code.outline
    worths = dict(machine.worths)
    firsts = dict(machine.firsts)
    firsts.pop(machine.awaited)
    more = {machine.awaited: 0}
    line = machine.line
    while line <= outline.many_lines():
        step = outline.step_at(line)
        if step[0] == "tell":
            return more.get(step[1])
        if step[0] in RECKONED:
            opened = [(sign, term) for sign, term in step[2] if term in more]
            if [term for term in names_in(step[2]) if term in firsts]:
                return None
            if not opened:
                worth = reckoned(step, worths)
                more.pop(step[1], None)
            elif step[0] == "set" and len(opened) == 1 and opened[0][0] == 1:
                # What is added to the first bit is the sum with 0 in the place of its name.
                worth = plain_sum(step[2], {**worths, opened[0][1]: 0}) + more[opened[0][1]]
                more[step[1]] = worth
            else:
                return None
            worths[step[1]] = worth
            firsts.pop(step[1], None)
        elif step[0] not in ("end", "else"):
            return None
        line = outline.target_at(line) if step[0] == "else" else line + 1
    return None


class MapMachine:
    """A play of a map code. answers is None, or has pairs of masks where the play waits to know which one holds: that
    no bin of the first mask is set, and some bin of the other one (any for 0).

    ended is "done" while the play goes on. A register that is the first bit of a pattern is not worked out before it
    is read: firsts has the pattern, which surely is not empty. Where the play waits for one, awaited is its name, and
    bits are the numbers of the bits of the answers.
    """

    def __init__(self, code, rules, known, words, roof):
        self.code = code
        self.rules = rules
        self.known = known
        self.words = list(words)
        self.roof = roof
        self.line = 1
        self.ended = "done"
        self.told = None
        self.answers = None
        self.awaited = None
        self.bits = []
        self.worths = {"bin": 0, "a": 0, "b": 0, "c": 0}
        self.firsts = {}
        self.patterns = {"p": (0,) * rules.wide, "q": (0,) * rules.wide}

    def answered(self, answers):
        """The same play at the same line, with some answers, as far as they can be."""
        known = [self.known.with_answer(zeros, mask) for zeros, mask in answers]
        return [self.branch(one) for one in known if one is not None]

    def branch(self, known):
        """The same play at the same line, which knows more."""
        other = MapMachine(self.code, self.rules, known, self.words, self.roof)
        other.line = self.line
        other.worths = dict(self.worths)
        other.firsts = dict(self.firsts)
        other.patterns = dict(self.patterns)
        return other

    def advance(self):
        """Plays on up to the end, or to a line that waits for an answer."""
        outline = self.code.outline
        while self.line <= outline.many_lines() and self.ended == "done":
            step = outline.step_at(self.line)
            if not self.work_out(names_read(step)):
                return
            if step[0] == "else":
                self.line = outline.target_at(self.line)
            elif step[0] == "if":
                side = test_holds(step[1], self)
                if side is None:
                    return
                self.line = self.line + 1 if side else outline.target_at(self.line)
            elif step[0] in ("tell", "none", "quit"):
                self.end_at(step)
                return
            elif step[0] == "end" or self.play_step(step):
                self.line += 1
            elif self.answers is None:
                self.ended = "beyond"
            else:
                return
        if self.code.kind == "find":
            self.ended = "beyond"

    def end_at(self, step):
        """Ends the play at a line that ends it."""
        if step[0] == "tell":
            self.told = self.worth_of(step[1])
        elif step[0] == "none":
            self.ended = "refused"
        elif self.code.kind == "find":
            self.ended = "beyond"

    def work_out(self, names):
        """Works out the first bits that some names stand for; whether the play does not wait for one."""
        for name in names:
            if name in self.firsts:
                first = self.first_of(self.firsts[name])
                if first is None:
                    self.awaited = name
                    return False
                self.set_name(name, first)
        return True

    def set_name(self, name, worth):
        """Sets a register."""
        self.worths[name] = worth
        self.firsts.pop(name, None)

    def worth_of(self, term):
        """The number that a name or number stands for."""
        return self.worths[term] if isinstance(term, str) else term

    def part_holds(self, part):
        """Whether a part of a test holds; None if the play waits for that."""
        if part[0] != "empty":
            return compared_plainly(part, self.worths)
        return self.is_empty(self.patterns[part[1]])

    def is_empty(self, masks):
        """Whether a pattern is empty; None if the play waits for that."""
        whole = 0
        for mask in masks:
            whole = whole | mask
        if self.known.is_zero(whole):
            return True
        if self.known.is_set(whole):
            return False
        self.answers = [(whole, 0), (0, whole)]
        return None

    def first_of(self, masks):
        """The number of the least bit of a pattern that surely is not empty; None if the play waits for it."""
        known = self.known
        sets = known.sets_inside(masks)
        passed = 0
        answers = []
        bits = []
        for at, mask in enumerate(masks):
            if mask & ~passed & ~known.zeros == 0:
                continue
            answers.append((passed, mask))
            bits.append(at)
            passed = passed | mask
            if [True for one in sets if one & ~passed == 0]:
                break
        if len(bits) == 1:
            return bits[0]
        self.answers = answers
        self.bits = bits
        return None

    def play_step(self, step):
        """Plays a line; whether it was neither beyond nor waits."""
        if step[0] in RECKONED:
            self.set_name(step[1], reckoned(step, self.worths))
            return True
        if step[0] == "first":
            masks = self.patterns[step[2]]
            if self.is_empty(masks) is not False:
                return False
            self.firsts[step[1]] = masks
            return True
        if step[0] in ("word", "write word"):
            return self.play_word(step)
        if step[0] in ("from", "with", "without"):
            return self.change_pattern(step)
        if step[0] == "roof":
            self.patterns[step[1]] = self.roof
        elif step[0] == "write roof":
            self.roof = self.patterns[step[1]]
        else:
            self.patterns[step[1]] = self.patterns[step[2]]
        return True

    def play_word(self, step):
        """Plays a line that reads or writes a word; whether there is such a word."""
        index = self.worth_of(step[2])
        if not is_between(index, 0, self.rules.words - 1):
            return False
        if step[0] == "word":
            self.patterns[step[1]] = self.words[index]
        else:
            self.words[index] = self.patterns[step[1]]
        return True

    def change_pattern(self, step):
        """Plays a line with from, with or without; whether there is such a bit."""
        at = self.worth_of(step[2])
        if not is_between(at, 0, self.rules.wide - 1):
            return False
        masks = self.patterns[step[1]]
        if step[0] == "from":
            self.patterns[step[1]] = (0,) * at + masks[at:]
        else:
            bit = 1 << self.rules.bins if step[0] == "with" else 0
            self.patterns[step[1]] = (*masks[:at], bit, *masks[at + 1:])
        return True
