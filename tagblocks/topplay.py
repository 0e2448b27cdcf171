"""Plays of top codes on cases that are known."""

from tagblocks.deedmachine import known
from tagblocks.deedplay import known_numbers
from tagblocks.errors import BadCase
from tagblocks.forms import plain
from tagblocks.texts import is_from
from tagblocks.topjudge import TOP_PROMISES, TopJudge
from tagblocks.topmachine import TopMachine


def is_top_state(rules, size, top):
    """Whether two values tell a state."""
    if not is_from(size, 0) or not is_from(top, 0):
        return False
    if size % rules.page != 0 or (rules.limit is not None and size > rules.limit):
        return False
    if top == 0:
        return True
    return top >= rules.least and top % rules.unit == 0 and top + rules.fence <= size


def is_top_case(code, case):
    """Whether a value tells a case for a code."""
    if not isinstance(case, tuple) or len(case) != (3 if code.kind == "grow" else 2):
        return False
    rules = code.rules
    if not is_top_state(rules, case[0], case[1]):
        return False
    return code.kind == "trim" or (is_from(case[2], max(rules.least, case[1] + 1)) and case[2] % rules.unit == 0)


def top_machine(code, size, top, need):
    """The play of a code on known numbers, whatever they are; need is None for trim."""
    return TopMachine(code, known_numbers(), plain(size), plain(top), None if need is None else plain(need))


def top_breaks(judge, promise):
    """Whether a play on known numbers breaks a promise; a row with a new name for pages tells that there are such."""
    for rows in judge.breaches_of(promise):
        if not [row for row in rows if len(row) == 1 and known(row) < 0] and have_pages(rows):
            return True
    return False


def have_pages(rows):
    """Whether there is a number for the one name of some rows: none, or one that is bounded from both sides."""
    lows = [-(row[0] // factor) for row in rows for name, factor in row.items() if name and factor > 0]
    highs = [row[0] // -factor for row in rows for name, factor in row.items() if name and factor < 0]
    return not lows or max(lows) <= min(highs)


class TopPlay:
    """A play of a top code: how it ended, the size and the top it left, what was asked for and given, what it broke."""

    def __init__(self, code, case):
        machine = top_machine(code, case[0], case[1], case[2] if code.kind == "grow" else None)
        self.ended = machine.ended
        self.size = known(machine.worths["size"])
        self.top = known(machine.worths["top"])
        self.asks = tuple([(known(words), is_granted) for words, is_granted in machine.asks])
        self.gives = tuple([known(words) for words in machine.gives])
        judge = TopJudge(machine)
        self.broken = tuple([promise for promise in TOP_PROMISES[code.kind] if top_breaks(judge, promise)])
        self.played = tuple(sorted({line: True for line in machine.played}))

    def lines(self):
        """The numbers of the lines that were played, ascending."""
        return self.played


def play_top(code, case):
    """The play of a code on a case."""
    if not is_top_case(code, case):
        raise BadCase(case)
    return TopPlay(code, case)
