"""Plays of move codes on a length and a gap that are open: all froms and tos of a play, told by sums of names."""

from tagblocks.forms import level, negated, plain, plus, shifted
from tagblocks.moveplay import changed_by, steps_in
from tagblocks.movelines import REGISTERS, lines_of_while
from tagblocks.runs import compared, sum_of, worth_of

# The names of the open numbers: len and head are so many units, and the gap.
UNITS = 1
GAP = 2


class Event:
    """A line with from or to that is played once, or in all rounds of a while.

    In round t, from 0 on, the place is form + rate * t; rounds is how many there are, None for once. A to has the
    place, value + value_rate * t, at which the word was read that it writes. part is the number of the line or while
    among all that are played, at the place in the while.
    """

    def __init__(self, part, at, rounds, place):
        self.part = part
        self.at = at
        self.rounds = rounds
        self.form, self.rate = place
        self.value = None
        self.value_rate = 0


class OpenMove:
    """The registers of a play on open numbers, and its events."""

    def __init__(self, code, numbers):
        self.numbers = numbers
        self.worths = {name: plain(0) for name in REGISTERS}
        self.worths["len"] = {0: -code.rules.head, UNITS: code.rules.unit}
        self.worths["gap"] = {0: 0, GAP: 1}
        self.held = {}
        self.parts = 0
        self.reads = []
        self.writes = []

    def part_holds(self, part):
        """Whether a part of a test holds."""
        return compared(part, self.worths, self.numbers)

    def is_place(self, form):
        """Whether a form is a place."""
        return not self.numbers.below(form, plain(0)) and self.numbers.below(form, self.worths["len"])

    def play_step(self, step):
        """Plays a line outside of whiles; whether it was not beyond."""
        self.parts += 1
        form = sum_of(step[2], self.worths, self.numbers)
        if step[0] == "set":
            self.worths[step[1]] = form
        elif step[0] == "divided":
            self.worths[step[1]] = self.numbers.quotient(form, step[3])
        elif not self.is_place(form):
            return False
        else:
            return self.add_event(step, Event(self.parts, 0, None, (form, 0)))
        return True

    def add_event(self, step, event):
        """Adds the event of a from or to; whether the word of a to holds something."""
        if step[0] in ("from", "loop from"):
            self.held[step[1]] = event
            self.reads.append(event)
        elif step[1] not in self.held:
            return False
        else:
            event.value = self.held[step[1]].form
            event.value_rate = self.held[step[1]].rate
            self.writes.append(event)
        return True

    def play_while(self, outline, line, run):
        """Plays a while; whether it was not beyond."""
        _, wanted, part = outline.step_at(line)
        steps = steps_in(outline, line)
        left, right = [worth_of(side, self.worths, self.numbers) for side in part[1:]]
        rounds = self.rounds_of(wanted, part[0], plus(left, -1, right), changed_by(part, steps))
        if rounds is None:
            return False
        self.parts += 1
        self.held = {}
        if rounds:
            for at, one in enumerate(lines_of_while(outline, line)):
                if not self.play_inside(outline.step_at(one), at, rounds, steps):
                    return False
            for name, step in steps.items():
                self.worths[name] = plus(plus(self.worths[name], -step, plain(1)), step, rounds)
        self.held = {}
        return True

    def play_inside(self, step, at, rounds, steps):
        """Plays a line of a while, for all rounds; whether it is beyond in none. A stepped register is one round on."""
        if step[0] == "step":
            self.worths[step[1]] = shifted(self.worths[step[1]], step[2])
            return True
        form = sum_of(step[2], self.worths, self.numbers)
        rate = sum([sign * steps.get(term, 0) for sign, term in step[2]])
        last = plus(form, rate, shifted(rounds, -1))
        low, high = (form, last) if rate > 0 else (last, form)
        if self.numbers.below(low, plain(0)) or not self.numbers.below(high, self.worths["len"]):
            return False
        return self.add_event(step, Event(self.parts, at, rounds, (form, rate)))

    def rounds_of(self, wanted, sign, gap, step):
        """How many rounds there are, a form; {} for none; None if the while never ends."""
        if sign == "is":
            return self.rounds_unlike(gap, step) if not wanted else self.rounds_alike(gap, step)
        # The part holds as long as gap is below 0.
        if sign == "<=":
            gap = shifted(gap, -1)
        if not wanted:
            gap, step = shifted(negated(gap), -1), -step
        if not self.numbers.below(gap, plain(0)):
            return {}
        if step <= 0:
            return None
        rounds = {0: 0, self.numbers.new_name(1, None): 1}
        last = plus(gap, step, rounds)
        self.numbers.define([last, shifted(negated(last), step - 1)])
        return rounds

    def rounds_alike(self, gap, step):
        """How many rounds there are as long as gap is 0."""
        if not self.numbers.same(gap, plain(0)):
            return {}
        return plain(1) if step else None

    def rounds_unlike(self, gap, step):
        """How many rounds there are as long as gap is not 0."""
        if self.numbers.same(gap, plain(0)):
            return {}
        if step > 0:
            gap, step = negated(gap), -step
        if step == 0 or self.numbers.below(gap, plain(0)):
            return None
        # Now a number above 0 falls by the same number from round to round.
        rounds = {0: 0, self.numbers.new_name(0, None): 1}
        rest = plus(gap, step, rounds)
        if step < -1:
            over = {0: 0, self.numbers.new_name(0, -step - 1): 1}
            self.numbers.define(level(plus(rest, -1, over)))
            return rounds if self.numbers.same(over, plain(0)) else None
        self.numbers.define(level(rest))
        return rounds
