"""The lines of a deed, read: what each one does, where a play goes on behind it, and how steps come out."""

from tagblocks.deedlines import MOST, OUTCOMES, deed_mark, deed_part_in, deed_step_in
from tagblocks.errors import BadLine, TooMany
from tagblocks.outlines import read_line
from tagblocks.texts import lines_of

MOST_LINES = 60
MOST_IFS = 6
MOST_STEPS = 12


class DeedReader:
    """Reads lines one by one. branches has for each line with a step where each of its outcomes leads, so far.

    nest has the open blocks, waiting the lines where they begin; a step can have blocks as long as its line is owner.
    """

    def __init__(self, kind):
        self.kind = kind
        self.steps = []
        self.nest = []
        self.waiting = []
        self.branches = {}
        self.owners = {}
        self.owner = None
        # For each line where the play goes on: behind an if that does not hold, an else, or a block of a step.
        self.onward = {}

    def read(self, row):
        """Reads one line; whether it has a form at its place."""
        line = len(self.steps) + 1
        words = row.split(" ")
        if words[0] == "on":
            return self.read_on(words, line)
        if words == ["else"] and self.nest[-1:] == ["on"]:
            return False
        closed = self.nest[-1:]
        step = read_line(words, self.kind, deed_step_in, deed_part_in, None, self.nest)
        if step is None:
            return False
        self.steps.append(step)
        owner = None
        if step[0] == "if":
            self.waiting.append(line)
        elif step[0] in ("else", "end"):
            start = self.waiting.pop()
            self.onward[start] = line + 1
            if step[0] == "else":
                self.waiting.append(line)
            elif closed == ["on"]:
                owner = self.owners[start]
                self.onward[line] = None
        if step[0] in OUTCOMES:
            self.branches[line] = {}
            owner = line
        self.owner = owner
        return True

    def read_on(self, words, line):
        """Reads a line that begins a block of a step; whether there is such a step."""
        if len(words) != 2 or self.owner is None or words[1] in self.branches[self.owner]:
            return False
        if words[1] not in OUTCOMES[self.steps[self.owner - 1][0]]:
            return False
        self.branches[self.owner][words[1]] = line + 1
        self.owners[line] = self.owner
        self.steps.append(("on", words[1]))
        self.nest.append("on")
        self.waiting.append(line)
        self.owner = None
        return True


class DeedOutline:
    """A text of a deed that was read; lines are numbered from 1."""

    def __init__(self, rows, reader):
        self.rows = tuple(rows)
        self.steps = tuple(reader.steps)
        self.onward = dict(reader.onward)
        self.branches = {line: dict(found) for line, found in reader.branches.items()}
        self.behind = {line: line + 1 for line in self.branches}
        ends = [(self.onward[start], owner) for start, owner in sorted(reader.owners.items())]
        for end, owner in ends:
            self.behind[owner] = end
        for end, owner in ends:
            self.onward[end - 1] = self.behind[owner]

    def step_at(self, line):
        """What the line with a number does."""
        return self.steps[line - 1]

    def many_lines(self):
        """How many lines there are."""
        return len(self.steps)

    def line_behind(self, line):
        """Where a play goes on behind an else, or the end of a block."""
        return self.onward.get(line, line + 1)

    def target_at(self, line):
        """Where a play goes on whose test did not hold at an if."""
        return self.onward[line]

    def line_for(self, line, outcome):
        """Where a play goes on whose step came out so."""
        return self.branches[line].get(outcome, self.behind[line])

    def lines_behind(self, line):
        """All lines at which a play can go on behind a line."""
        step = self.step_at(line)
        if step[0] == "quit":
            return []
        if step[0] == "if":
            return [line + 1, self.target_at(line)]
        if step[0] in OUTCOMES:
            return [self.line_for(line, outcome) for outcome in OUTCOMES[step[0]]]
        return [self.line_behind(line)]

    def line_with_most(self, mark, most):
        """The least line that has a mark for which it stands more often on a way than it may, or None."""
        many = {1: 0}
        for line in range(1, self.many_lines() + 1):
            if line in many:
                found = many[line] + (1 if deed_mark(self.step_at(line)) == mark else 0)
                if found > most:
                    return line
                for other in self.lines_behind(line):
                    many[other] = max(found, many.get(other, 0))
        return None

    def refused_lines(self):
        """The lines that break limits; None stands for none."""
        return [self.line_with_most(mark, most) for mark, most in MOST.items()]


def read_deed(text, kind):
    """The outline of a text of a deed."""
    rows = lines_of(text)
    if len(rows) > MOST_LINES:
        raise TooMany("lines", len(rows), MOST_LINES)
    reader = DeedReader(kind)
    for at, row in enumerate(rows):
        if not reader.read(row):
            raise BadLine(at + 1)
    if reader.nest:
        raise BadLine(len(rows) + 1)
    many_ifs = len([step for step in reader.steps if step[0] == "if"])
    if many_ifs > MOST_IFS:
        raise TooMany("ifs", many_ifs, MOST_IFS)
    many_steps = len(reader.branches)
    if many_steps > MOST_STEPS:
        raise TooMany("steps", many_steps, MOST_STEPS)
    return DeedOutline(rows, reader)
