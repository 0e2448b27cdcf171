"""What is found of a move code: for each promise the numbers of units of lengths at which it is broken."""

from tagblocks.classsets import ClassSet
from tagblocks.forms import negated, plus, shifted
from tagblocks.movejudge import MoveJudge
from tagblocks.moveopen import GAP, UNITS, OpenMove
from tagblocks.opennumbers import OpenNumbers
from tagblocks.runs import run_through
from tagblocks.solving import Solved, stretches_of


def len_form(rules):
    """The length, told by its units."""
    return {0: -rules.head, UNITS: rules.unit}


def gap_sorts(code):
    """For each sort of gaps of the kind of a code the rows that they keep to."""
    gap = {0: 0, GAP: 1}
    if code.kind == "any":
        return [[]]
    if code.kind == "apart":
        length = len_form(code.rules)
        return [[plus(gap, -1, length)], [shifted(negated(plus(gap, 1, length)), 0), shifted(negated(gap), -1)]]
    return [[negated(gap)]] if code.kind == "down" else [[gap]]


def judges_of(code, rows, solved):
    """The plays of a code on all lengths and gaps for which rows hold."""
    judges = []
    waiting = [([], [len_form(code.rules), *sort, *rows]) for sort in gap_sorts(code)]
    while waiting:
        trail, known = waiting.pop()
        numbers = OpenNumbers({UNITS: 0, GAP: None}, {UNITS: None, GAP: None}, trail, known, solved)
        machine = OpenMove(code, numbers)
        run = run_through(code.outline, machine)
        if not numbers.is_lost:
            judges.append(MoveJudge(machine, run.ended))
        waiting.extend(numbers.waiting)
    return judges


def broken_rows(judges, promise):
    """The rows of all plays that break a promise."""
    return [judge.numbers.whole_rows(rows) for judge in judges for rows in judge.breaches_of(promise)]


class MoveFindings:
    """The plays of a code, and what was found of them so far."""

    def __init__(self, code):
        self.solved = Solved()
        self.judges = judges_of(code, [], self.solved)
        self.rows = {}
        self.sets = {}

    def rows_for(self, promise):
        """The rows of all plays that break a promise."""
        if promise not in self.rows:
            self.rows[promise] = broken_rows(self.judges, promise)
        return self.rows[promise]

    def set_for(self, promises):
        """The set of the numbers of units with which one of some promises is broken."""
        if promises not in self.sets:
            stretches = []
            for promise in promises:
                for rows in self.rows_for(promise):
                    stretches = stretches + stretches_of(rows, UNITS)
            self.sets[promises] = ClassSet(stretches)
        return self.sets[promises]


def move_findings_of(code):
    """What is found of a move code; it is looked for once."""
    if code.findings is None:
        code.findings = MoveFindings(code)
    return code.findings
