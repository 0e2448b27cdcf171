"""What is found of slab codes: the plays on all sizes or pages, and the least numbers with which rows hold."""

from tagblocks.forms import level, plain
from tagblocks.leasts import least_of_systems, least_worth
from tagblocks.opennumbers import OpenNumbers
from tagblocks.runs import run_through
from tagblocks.slabjudge import LayJudge, PageJudge
from tagblocks.slabopen import OpenSlab
from tagblocks.slabsorts import MANY, MAPS, USED, sorts_of
from tagblocks.solving import Solved


def judges_of(code, sort, solved):
    """The plays of a code on all that there is of a sort."""
    judges = []
    waiting = [([], sort.start_rows())]
    points = sort.page_points()
    while waiting:
        trail, known = waiting.pop()
        numbers = OpenNumbers(sort.name_lows(), sort.name_tops(), trail, known, solved, points)
        if sort.kind != "lay":
            numbers.meanings[MAPS] = sort.maps_rows()
        # What waits was seen to be able to hold.
        numbers.is_sure = len(trail) > 0
        machine = OpenSlab(sort, numbers)
        run = run_through(code.outline, machine)
        if not numbers.is_lost:
            judges.append(LayJudge(machine, run.ended) if sort.kind == "lay" else PageJudge(machine, run.ended))
        waiting.extend(numbers.waiting)
    return judges


def is_asked(sort, promise):
    """Whether plays of a sort can break a promise."""
    if promise in ("odd", "twice"):
        return not sort.is_owing and (sort.where == "place") == (promise == "twice")
    return sort.is_owing or sort.kind == "take"


class SlabFindings:
    """The plays of a code by some rules, and for each promise the rows of those that break it."""

    def __init__(self, rules, code):
        self.rules = rules
        self.kind = code.kind
        self.solved = Solved()
        self.code = code
        self.sorts = sorts_of(rules, code.kind)
        self.judges = [None] * len(self.sorts)
        self.broken = {}

    def judges_at(self, at):
        """The plays of the sort at a place; they are looked for once."""
        if self.judges[at] is None:
            self.judges[at] = judges_of(self.code, self.sorts[at], self.solved)
        return self.judges[at]

    def can_break(self, promise):
        """Whether a promise is broken by some play."""
        if promise in self.broken:
            return len(self.broken[promise]) > 0
        for at, sort in enumerate(self.sorts):
            if is_asked(sort, promise):
                for judge in self.judges_at(at):
                    for rows in judge.breaches_of(promise):
                        if judge.numbers.can_be(rows):
                            return True
        return False

    def systems_for(self, promise):
        """The plays that break a promise, each with rows with which it does, and which can hold."""
        if promise not in self.broken:
            judges = [judge for at, sort in enumerate(self.sorts) if is_asked(sort, promise)
                      for judge in self.judges_at(at)]
            self.broken[promise] = [(judge, rows) for judge in judges for rows in judge.breaches_of(promise)
                                    if judge.numbers.can_be(rows)]
        return self.broken[promise]

    def last_number(self):
        """The greatest size, or number of places."""
        return self.rules.top if self.kind == "lay" else self.rules.places_for(self.rules.top)

    def least_between(self, promise, low, high):
        """The least size, or number of places, from one to another one at which a promise is broken, or None."""
        best = None
        # A size has the name that many has.
        many = {0: 0, MANY: 1}
        for judge, rows in self.systems_for(promise):
            last = high if best is None else best - 1
            near = judge.numbers.least_at_points(rows, MANY, low, last)
            if near is not None:
                best = near
                last = near - 1
            if low <= last:
                found = least_worth(judge.numbers.needed_rows([*rows, many]), many, low, last, self.solved)
                best = best if found is None else found
        return best

    def least_case(self, promise):
        """The least size, or the least many, used and handed, with which a promise is broken; or None."""
        least = self.least_between(promise, 0, self.last_number())
        if least is None or self.kind == "lay":
            return least
        systems = [(judge, rows + level({0: -least, MANY: 1})) for judge, rows in self.systems_for(promise)]
        used = {0: 0, USED: 1}
        least_used = self.least_number([(judge, rows, used) for judge, rows in systems], least)
        systems = [(judge, rows + level({0: -least_used, USED: 1})) for judge, rows in systems]
        handed = [(judge, rows, handed_form(judge)) for judge, rows in systems]
        return (least, least_used, self.least_number(handed, self.rules.top))

    def least_number(self, systems, high):
        """The least number up to another one that forms can be where rows of plays hold, or None."""
        told = [(judge.numbers.needed_rows([*rows, form]), form) for judge, rows, form in systems]
        found = least_of_systems(told, 0, high, self.solved)
        return None if found is None else found[0]


def handed_form(judge):
    """What is handed to a play: the address, or the number of the least bit not set."""
    if judge.page_sort.kind == "back":
        return judge.page_sort.address_form()
    if judge.page_sort.is_full:
        return {0: 0, MANY: 1}
    # Where nothing was looked for, it may be any that is not lent: the first place is the least one.
    return plain(0) if judge.machine.found is None else judge.machine.found


def slab_findings_of(rules, code):
    """What is found of a code by some rules; it is looked for once."""
    for findings in code.findings:
        if findings.rules == rules:
            return findings
    findings = SlabFindings(rules, code)
    code.findings.append(findings)
    return findings
