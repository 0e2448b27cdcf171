"""What is found of top codes: the plays on all cases, and the rows with which they break promises or swing."""

from tagblocks.forms import level, plain, plus, shifted
from tagblocks.leasts import least_of_systems
from tagblocks.opennumbers import OpenNumbers
from tagblocks.solving import Solved
from tagblocks.topjudge import TopJudge
from tagblocks.topmachine import TopMachine

# The names of the open numbers: pages of memory, units of the top, units of the need.
PAGES = 1
UNITS = 2
NEEDS = 3
# Memory without words, without a top, and with one.
SORTS = ("empty", "bare", "topped")


class TopSort:
    """A sort of states of some rules: their open numbers, and the rows that hold for them."""

    def __init__(self, rules, name, has_need):
        self.rules = rules
        self.size = plain(0) if name == "empty" else {0: 0, PAGES: rules.page}
        self.top = {0: 0, UNITS: rules.unit} if name == "topped" else plain(0)
        self.wanted = {0: 0, NEEDS: rules.unit} if has_need else None

    def start_rows(self):
        """The rows that hold from the start."""
        rows = [shifted(plus(self.size, -1, self.top), -self.rules.fence)] if len(self.top) > 1 else []
        if self.rules.limit is not None:
            rows.append(plus(plain(self.rules.limit), -1, self.size))
        if self.wanted is not None:
            rows.append(shifted(plus(self.wanted, -1, self.top), -1))
        return rows

    def open_numbers(self, trail, rows, solved):
        """The open numbers of a play."""
        least = self.rules.least // self.rules.unit
        lows = {PAGES: 1, UNITS: least, NEEDS: least}
        return OpenNumbers(lows, {name: None for name in lows}, trail, rows, solved)


def plays_of(code, more, solved):
    """All plays of a code: triples of the sort, the machine, and that of another code (None for none) behind it."""
    plays = []
    for name in SORTS:
        sort = TopSort(code.rules, name, code.kind == "grow")
        waiting = [([], sort.start_rows())]
        while waiting:
            trail, rows = waiting.pop()
            numbers = sort.open_numbers(trail, rows, solved)
            machine = TopMachine(code, numbers, sort.size, sort.top, sort.wanted)
            behind = None
            if more is not None and machine.ended == "done" and not numbers.is_lost:
                behind = play_behind(machine, more)
            if not numbers.is_lost:
                plays.append((sort, machine, behind))
            waiting.extend(numbers.waiting)
    return plays


def play_behind(machine, code):
    """The play of a code for trimming on what a play for growing left, if that kept true and enough."""
    rows = TopJudge(machine).kept_rows()
    if not machine.numbers.can_be(rows):
        return None
    numbers = machine.numbers
    numbers.let_hold(rows)
    return TopMachine(code, numbers, machine.worths["size"], machine.worths["top"], None)


class TopFindings:
    """The plays of a code, and where they break promises."""

    def __init__(self, code):
        self.solved = Solved()
        self.kind = code.kind
        self.plays = [(sort, machine, TopJudge(machine)) for sort, machine, _ in plays_of(code, None, self.solved)]
        self.broken = {}

    def systems_for(self, promise):
        """The plays that break a promise: pairs of the sort and rows that can hold where it does."""
        if promise not in self.broken:
            found = []
            for sort, machine, judge in self.plays:
                for rows in judge.breaches_of(promise):
                    whole = with_ranges(machine.numbers, rows)
                    if self.solved.can_hold(whole):
                        found.append((sort, whole))
            self.broken[promise] = found
        return self.broken[promise]

    def least_from(self, promise, number):
        """The least need (of trim: top) from one on at which a promise is broken, or None."""
        found = least_numbers(self.systems_for(promise), forms_for(self.kind)[:1], number, self.solved)
        return None if found is None else found[0]

    def least_case(self, promise):
        """The case that breaks a promise with the least need, then size, then top (trim: top, then size), or None."""
        return case_of(self.kind, least_numbers(self.systems_for(promise), forms_for(self.kind), 0, self.solved))


class SwingFindings:
    """The plays of a code for growing with one for trimming behind it, where they swing."""

    def __init__(self, grow, trim):
        self.solved = Solved()
        self.systems = []
        for sort, machine, behind in plays_of(grow, trim, self.solved):
            if behind is not None and behind.ended == "done":
                less = shifted(plus(machine.wanted, -1, behind.worths["top"]), -1)
                rows = machine.numbers.whole_rows([less])
                if self.solved.can_hold(rows):
                    self.systems.append((sort, rows))

    def least_from(self, number):
        """The least need from one on at which the codes swing, or None."""
        found = least_numbers(self.systems, forms_for("grow")[:1], number, self.solved)
        return None if found is None else found[0]

    def least_case(self):
        """The least case with which the codes swing, or None."""
        return case_of("grow", least_numbers(self.systems, forms_for("grow"), 0, self.solved))


def with_ranges(numbers, rows):
    """All rows of a way with more; a name of theirs that the way does not have is one from 0 on."""
    new = sorted({name: True for row in rows for name in row if name and name not in numbers.tops})
    return numbers.whole_rows(rows) + [{0: 0, name: 1} for name in new]


def forms_for(kind):
    """By what cases are compared, the first one first."""
    return ("need", "size", "top") if kind == "grow" else ("top", "size")


def form_of(sort, name):
    """The form of the size, the top or the need of a sort."""
    if name == "need":
        return sort.wanted
    return sort.size if name == "size" else sort.top


def least_numbers(systems, names, number, solved):
    """The least numbers, the first one from a number on, then the least next ones with it; None if there are none."""
    found = []
    left = systems
    for at, name in enumerate(names):
        low = number if at == 0 else 0
        told = least_of_systems([(rows, form_of(sort, name)) for sort, rows in left], low, None, solved)
        if told is None:
            return None
        found.append(told[0])
        left = [(sort, [*rows, *level(shifted(form_of(sort, name), -told[0]))]) for sort, rows in left]
    return found


def case_of(kind, numbers):
    """The case that some numbers tell, as they were compared; None for None."""
    if numbers is None:
        return None
    if kind == "trim":
        return (numbers[1], numbers[0])
    return (numbers[1], numbers[2], numbers[0])


def top_findings_of(code):
    """What is found of a top code; it is looked for once."""
    if code.findings is None:
        code.findings = TopFindings(code)
    return code.findings
