"""Plays of move codes on words of memory."""

from tagblocks.errors import BadGap, BadLength, BadNumber
from tagblocks.movelines import REGISTERS, lines_of_while
from tagblocks.runs import compared_plainly, plain_sum, run_through
from tagblocks.texts import is_whole


def many_rounds(wanted, part, gap, step):
    """How often a part of a test holds in a row; None for no end.

    gap is what its left side is greater than the right one by at first, step by how much that grows each round.
    """
    if part[0] == "is" and wanted:
        return 0 if gap != 0 else (None if step == 0 else 1)
    if part[0] == "is":
        if gap == 0:
            return 0
        return -gap // step if step != 0 and gap % step == 0 and -gap // step > 0 else None
    # The part holds as long as gap is below 0.
    if part[0] == "<=":
        gap = gap - 1
    if not wanted:
        gap, step = -gap - 1, -step
    if gap >= 0:
        return 0
    return -(gap // step) if step > 0 else None


def steps_in(outline, line):
    """By how much each round of a while changes each register."""
    inside = [outline.step_at(one) for one in lines_of_while(outline, line)]
    return {step[1]: step[2] for step in inside if step[0] == "step"}


def changed_by(part, steps):
    """By how much each round changes what the left side of a part is greater than the right one by."""
    left, right = [steps.get(side, 0) for side in part[1:]]
    return left - right


class MoveMachine:
    """The registers of a play, the words that it holds, and what it has written to memory."""

    def __init__(self, words, source, many, gap):
        self.words = dict(words)
        self.source = source
        self.worths = {name: 0 for name in REGISTERS}
        self.worths["len"] = many
        self.worths["gap"] = gap
        self.held = {}
        self.written = []

    def part_holds(self, part):
        """Whether a part of a test holds."""
        return compared_plainly(part, self.worths)

    def play_step(self, step):
        """Plays a line; whether it was not beyond."""
        if step[0] == "step":
            self.worths[step[1]] += step[2]
            return True
        worth = plain_sum(step[2], self.worths)
        if step[0] == "set":
            self.worths[step[1]] = worth
        elif step[0] == "divided":
            self.worths[step[1]] = worth // step[3]
        elif not 0 <= worth < self.worths["len"]:
            return False
        elif step[0] in ("from", "loop from"):
            self.held[step[1]] = self.words.get(self.source + worth)
        elif step[1] not in self.held:
            return False
        else:
            address = self.source + self.worths["gap"] + worth
            self.words[address] = self.held[step[1]]
            self.written.append(address)
        return True

    def play_while(self, outline, line, run):
        """Plays all rounds of a while; whether that was not beyond."""
        _, wanted, part = outline.step_at(line)
        left, right = [self.worths[side] if isinstance(side, str) else side for side in part[1:]]
        rounds = many_rounds(wanted, part, left - right, changed_by(part, steps_in(outline, line)))
        if rounds is None:
            return False
        inside = [(one, outline.step_at(one)) for one in lines_of_while(outline, line)]
        for number in range(rounds):
            for one, step in inside:
                if number == 0:
                    run.played.append(one)
                if not self.play_step(step):
                    return False
        self.held = {}
        return True


class MovePlay:
    """A play: how it ended, the addresses that were written, and the words behind it."""

    def __init__(self, code, words, source, many, gap):
        machine = MoveMachine(words, source, many, gap)
        run = run_through(code.outline, machine)
        self.ended = run.ended
        self.written = tuple(machine.written)
        self.words = machine.words
        self.played = tuple(sorted(run.played))
        self.chosen = tuple(sorted(run.chosen))

    def words_behind(self):
        """The words that were handed to the play, with what was written."""
        return {address: self.words[address] for address in self.words}

    def lines(self):
        """The numbers of the lines that were played, ascending."""
        return self.played

    def sides(self):
        """The pairs of a line and the side to which its test came out, ascending."""
        return self.chosen


def play_move(code, words, source, many, gap):
    """The play of a move code on words, from a source on, with a length and a gap."""
    if not is_whole(source):
        raise BadNumber(source)
    if not code.rules.in_use(many):
        raise BadLength(many)
    if not is_whole(gap) or not code.has_gap(many, gap):
        raise BadGap(gap)
    return MovePlay(code, words, source, many, gap)
