"""The lines of a text, read: what each one does, and where a play goes on behind it."""

from tagblocks.errors import BadLine, Refused, TooMany
from tagblocks.texts import lines_of, test_in

# A play ends at these lines, whatever the part.
ENDERS = ("quit", "no", "tell", "none")


class Outline:
    """A text that was read: its rows, a step for each of them, and the lines to which ifs and elses lead.

    A step is a tuple with its sort ahead; lines are numbered from 1.
    """

    def __init__(self, rows, steps):
        self.rows = tuple(rows)
        self.steps = tuple(steps)
        self.targets = targets_of(steps)

    def step_at(self, line):
        """What the line with a number does."""
        return self.steps[line - 1]

    def target_at(self, line):
        """Where a play goes on whose test did not hold at an if, or that comes to an else."""
        return self.targets[line - 1]

    def many_lines(self):
        """How many lines there are."""
        return len(self.steps)


def targets_of(steps):
    """For each if where its other side begins, for each else and while what stands behind its end."""
    targets = [None] * len(steps)
    waiting = []
    for at, step in enumerate(steps):
        if step[0] in ("if", "while"):
            waiting.append(at)
        elif step[0] == "else":
            targets[waiting.pop()] = at + 2
            waiting.append(at)
        elif step[0] == "end":
            targets[waiting.pop()] = at + 2
    return tuple(targets)


def read_while(words, kind, part_in, nest):
    """What a while asks, or None: just one part of a test."""
    test = test_in(words[1:], part_in, kind)
    if test is None or len(test) != 1:
        return None
    nest.append("while")
    return ("while", *test[0])


def read_line(words, kind, step_in, part_in, loop_in, nest):
    """What a line does, or None if it has no form at its place; nest, the open blocks, is kept up to date."""
    if nest and nest[-1] == "while" and words != ["end"]:
        return loop_in(words, kind)
    if words[0] == "while" and loop_in is not None:
        return read_while(words, kind, part_in, nest)
    if words[0] == "if":
        test = test_in(words[1:], part_in, kind)
        if test is None:
            return None
        nest.append("if")
        return ("if", test)
    if words == ["else"]:
        if not nest or nest.pop() == "else":
            return None
        nest.append("else")
        return ("else",)
    if words == ["end"]:
        if not nest:
            return None
        nest.pop()
        return ("end",)
    return step_in(words, kind)


def read_outline(text, kind, step_in, part_in, most_lines, most_ifs, loop_in=None):
    """The outline of a text: step_in reads its lines, part_in the parts of tests, loop_in what stands in a while."""
    rows = lines_of(text)
    if len(rows) > most_lines:
        raise TooMany("lines", len(rows), most_lines)
    steps = []
    nest = []
    for row in rows:
        step = read_line(row.split(" "), kind, step_in, part_in, loop_in, nest)
        if step is None:
            raise BadLine(len(steps) + 1)
        steps.append(step)
    if nest:
        raise BadLine(len(steps) + 1)
    many_ifs = len([step for step in steps if step[0] == "if"])
    if many_ifs > most_ifs:
        raise TooMany("ifs", many_ifs, most_ifs)
    return Outline(rows, steps)


def ways_through(outline):
    """All ways through the lines: lists of the numbers of lines, without else and end."""
    ways = []
    waiting = [(1, [])]
    while waiting:
        line, way = waiting.pop()
        while line <= outline.many_lines():
            sort = outline.step_at(line)[0]
            if sort == "else":
                line = outline.target_at(line)
                continue
            if sort != "end":
                way.append(line)
            if sort in ENDERS:
                break
            if sort == "if":
                waiting.append((outline.target_at(line), list(way)))
            line += 1
        ways.append(way)
    return ways


def line_above(outline, way, marks_of, most):
    """The first line of a way with which some mark stands on it more often than it may, or None."""
    many = {}
    for line in way:
        for mark in marks_of(outline.step_at(line)):
            many[mark] = many.get(mark, 0) + 1
            if many[mark] > most[mark]:
                return line
    return None


def refuse_least(lines):
    """Raises Refused for the least one of some lines, which may be None."""
    broken = [line for line in lines if line is not None]
    if broken:
        raise Refused(min(broken))
