"""What is found of slab codes: the plays on all sizes or pages, and the least numbers with which rows hold."""

from tagblocks.forms import level, negated, shifted
from tagblocks.opennumbers import OpenNumbers
from tagblocks.runs import run_through
from tagblocks.slabjudge import LayJudge, PageJudge
from tagblocks.slabopen import OpenSlab
from tagblocks.slabsorts import AT, MANY, SIZE, USED, sorts_of
from tagblocks.solving import Solved


def judges_of(code, sort, solved):
    """The plays of a code on all that there is of a sort."""
    judges = []
    waiting = [([], sort.start_rows())]
    while waiting:
        trail, known = waiting.pop()
        numbers = OpenNumbers(sort.name_lows(), sort.name_tops(), trail, known, solved)
        machine = OpenSlab(sort, numbers)
        run = run_through(code.outline, machine)
        if not numbers.is_lost:
            judges.append(LayJudge(machine, run.ended) if sort.kind == "lay" else PageJudge(machine, run.ended))
        waiting.extend(numbers.waiting)
    return judges


def least_in(systems, form, low, high, solved):
    """The least number from one to another one that a form can be where the rows of one of some systems hold."""
    best = None
    for rows in systems:
        top = high if best is None else best - 1
        if low > top or not solved.can_hold([*rows, shifted(form, -low), shifted(negated(form), top)]):
            continue
        first, last = low, top
        while first < last:
            middle = (first + last) // 2
            if solved.can_hold([*rows, shifted(form, -first), shifted(negated(form), middle)]):
                last = middle
            else:
                first = middle + 1
        best = first
    return best


class SlabFindings:
    """The plays of a code by some rules, and for each promise the rows of those that break it."""

    def __init__(self, rules, code):
        self.rules = rules
        self.kind = code.kind
        self.solved = Solved()
        self.judges = [judge for sort in sorts_of(rules, code.kind) for judge in judges_of(code, sort, self.solved)]
        self.broken = {}

    def systems_for(self, promise):
        """The rows of the plays that break a promise, of which each system can hold."""
        if promise not in self.broken:
            found = []
            for judge in self.judges:
                for rows in judge.breaches_of(promise):
                    if judge.numbers.can_be(rows):
                        found.append((judge, judge.numbers.whole_rows(rows)))
            self.broken[promise] = found
        return self.broken[promise]

    def least_from(self, promise, number):
        """The least size, or number of places, from one on at which a promise is broken, or None."""
        systems = [rows for _, rows in self.systems_for(promise)]
        high = self.rules.top if self.kind == "lay" else self.rules.places_for(self.rules.top)
        return least_in(systems, {0: 0, (SIZE if self.kind == "lay" else MANY): 1}, number, high, self.solved)

    def least_case(self, promise):
        """The least size, or the least many, used and handed, with which a promise is broken; or None."""
        least = self.least_from(promise, 0)
        if least is None or self.kind == "lay":
            return least
        found = [least]
        systems = [(judge, rows + level({0: -least, MANY: 1})) for judge, rows in self.systems_for(promise)]
        used = least_in([rows for _, rows in systems], {0: 0, USED: 1}, 0, least, self.solved)
        found.append(used)
        handed = None
        for judge, rows in systems:
            form, more = handed_form(judge)
            top = self.rules.top if handed is None else handed - 1
            told = least_in([[*rows, *more, *level({0: -used, USED: 1})]], form, 0, top, self.solved)
            handed = handed if told is None else told
        return (least, used, handed)


def handed_form(judge):
    """What is handed to a play, and rows that tell of it: the address, or the number of the least bit not set."""
    if judge.page_sort.kind == "back":
        return {0: 0, AT: 1}, []
    if judge.page_sort.is_full:
        return {0: 0, MANY: 1}, []
    if judge.machine.found is not None:
        return judge.machine.found, []
    # Nothing was looked for, so it may be any: the first place is the least one.
    name = len(judge.numbers.tops) + 1
    return {0: 0, name: 1}, [{0: 0, name: 1}, {0: 0, USED: 1, name: -1}]


def slab_findings_of(rules, code):
    """What is found of a code by some rules; it is looked for once."""
    for findings in code.findings:
        if findings.rules == rules:
            return findings
    findings = SlabFindings(rules, code)
    code.findings.append(findings)
    return findings
