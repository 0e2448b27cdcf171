"""What is found of slab codes: the plays on all sizes or pages, and the least numbers with which rows hold."""

from tagblocks.forms import level
from tagblocks.leasts import least_of_systems
from tagblocks.opennumbers import OpenNumbers
from tagblocks.runs import run_through
from tagblocks.slabjudge import LayJudge, PageJudge
from tagblocks.slabopen import OpenSlab
from tagblocks.slabsorts import AT, MANY, SIZE, USED, sorts_of
from tagblocks.solving import Solved


def judges_of(code, sort, solved):
    """The plays of a code on all that there is of a sort."""
    judges = []
    waiting = [([], sort.start_rows())]
    while waiting:
        trail, known = waiting.pop()
        numbers = OpenNumbers(sort.name_lows(), sort.name_tops(), trail, known, solved)
        machine = OpenSlab(sort, numbers)
        run = run_through(code.outline, machine)
        if not numbers.is_lost:
            judges.append(LayJudge(machine, run.ended) if sort.kind == "lay" else PageJudge(machine, run.ended))
        waiting.extend(numbers.waiting)
    return judges


def is_asked(sort, promise):
    """Whether plays of a sort can break a promise."""
    if promise in ("odd", "twice"):
        return not sort.is_owing and (sort.where == "place") == (promise == "twice")
    return sort.is_owing or sort.kind == "take"


class SlabFindings:
    """The plays of a code by some rules, and for each promise the rows of those that break it."""

    def __init__(self, rules, code):
        self.rules = rules
        self.kind = code.kind
        self.solved = Solved()
        self.code = code
        self.sorts = sorts_of(rules, code.kind)
        self.judges = [None] * len(self.sorts)
        self.broken = {}

    def judges_for(self, promise):
        """The plays that can break a promise; those of each sort are looked for once."""
        found = []
        for at, sort in enumerate(self.sorts):
            if is_asked(sort, promise):
                if self.judges[at] is None:
                    self.judges[at] = judges_of(self.code, sort, self.solved)
                found = found + self.judges[at]
        return found

    def systems_for(self, promise):
        """The rows of the plays that break a promise, of which each system can hold."""
        if promise not in self.broken:
            found = []
            for judge in self.judges_for(promise):
                for rows in judge.breaches_of(promise):
                    if judge.numbers.can_be(rows):
                        found.append((judge, judge.numbers.whole_rows(rows)))
            self.broken[promise] = found
        return self.broken[promise]

    def least_from(self, promise, number):
        """The least size, or number of places, from one on at which a promise is broken, or None."""
        form = {0: 0, (SIZE if self.kind == "lay" else MANY): 1}
        high = self.rules.top if self.kind == "lay" else self.rules.places_for(self.rules.top)
        return self.least_number([(rows, form) for _, rows in self.systems_for(promise)], number, high)

    def least_number(self, systems, low, high):
        """The least number from one to another one that forms can be where their rows hold, or None."""
        found = least_of_systems(systems, low, high, self.solved)
        return None if found is None else found[0]

    def least_case(self, promise):
        """The least size, or the least many, used and handed, with which a promise is broken; or None."""
        least = self.least_from(promise, 0)
        if least is None or self.kind == "lay":
            return least
        systems = [(judge, rows + level({0: -least, MANY: 1})) for judge, rows in self.systems_for(promise)]
        used = self.least_number([(rows, {0: 0, USED: 1}) for _, rows in systems], 0, least)
        handed = []
        for judge, rows in systems:
            form, more = handed_form(judge)
            handed.append(([*rows, *more, *level({0: -used, USED: 1})], form))
        return (least, used, self.least_number(handed, 0, self.rules.top))


def handed_form(judge):
    """What is handed to a play, and rows that tell of it: the address, or the number of the least bit not set."""
    if judge.page_sort.kind == "back":
        return {0: 0, AT: 1}, []
    if judge.page_sort.is_full:
        return {0: 0, MANY: 1}, []
    if judge.machine.found is not None:
        return judge.machine.found, []
    # Nothing was looked for, so it may be any: the first place is the least one.
    name = len(judge.numbers.tops) + 1
    return {0: 0, name: 1}, [{0: 0, name: 1}, {0: 0, USED: 1, name: -1}]


def slab_findings_of(rules, code):
    """What is found of a code by some rules; it is looked for once."""
    for findings in code.findings:
        if findings.rules == rules:
            return findings
    findings = SlabFindings(rules, code)
    code.findings.append(findings)
    return findings
