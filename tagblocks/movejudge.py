"""Where plays of move codes on open numbers break promises: rows, of which some system can hold."""

from tagblocks.forms import level, negated, plain, plus, shifted
from tagblocks.moveopen import GAP

MOVE_PROMISES = ("inside", "fresh", "whole", "once", "still")


class MoveJudge:
    """The events of a play, what holds on its way, and its lowest name that is free.

    A breach is a list of rows that can hold together with those of the way.
    """

    def __init__(self, machine, ended):
        self.numbers = machine.numbers
        self.reads = machine.reads
        self.writes = machine.writes
        self.ended = ended
        self.length = machine.worths["len"]
        self.first_name = machine.numbers.next_name()

    def breaches_of(self, promise):
        """The breaches of a promise."""
        if promise == "inside" or self.ended == "beyond":
            return [[]] if promise == "inside" and self.ended == "beyond" else []
        if promise == "fresh":
            return self.able(self.stale_reads())
        if promise == "whole":
            return self.unwritten() + self.wrong_writes()
        if promise == "once":
            return self.able(self.double_writes())
        return self.able([level({0: 0, GAP: 1})]) if self.writes else []

    def able(self, breaches):
        """Those of some lists of rows that can hold."""
        return [rows for rows in breaches if self.numbers.can_be(rows)]

    def round_of(self, event, number):
        """A form for a round of an event, and the rows that tell that there is such a round: for a free name."""
        if event.rounds is None:
            return plain(0), []
        name = {0: 0, self.first_name + number: 1}
        return name, [name, shifted(plus(event.rounds, -1, name), -1)]

    def place_in(self, event, turn):
        """The place of an event in a round."""
        return plus(event.form, event.rate, turn)

    def before(self, one, first, other, second):
        """The rows that tell that a round of an event comes before a round of another one, or None if it never does."""
        if one.part != other.part:
            return [] if one.part < other.part else None
        if one.rounds is None:
            return None
        return [plus(second, -1, first)] if one.at < other.at else [shifted(plus(second, -1, first), -1)]

    def stale_reads(self):
        """Where a word is read at an address to which a word from another one was written before."""
        found = []
        for write in self.writes:
            first, rows = self.round_of(write, 0)
            address = plus(self.place_in(write, first), 1, {0: 0, GAP: 1})
            moved = plus(plus(write.value, write.value_rate, first), -1, address)
            for read in self.reads:
                second, more = self.round_of(read, 1)
                order = self.before(write, first, read, second)
                if order is not None:
                    same = level(plus(self.place_in(read, second), -1, address))
                    for unlike in (shifted(moved, -1), shifted(negated(moved), -1)):
                        found.append([*rows, *more, *order, *same, unlike])
        return found

    def double_writes(self):
        """Where a place is written twice."""
        found = []
        for write in self.writes:
            first, rows = self.round_of(write, 0)
            for other in self.writes:
                second, more = self.round_of(other, 1)
                order = self.before(write, first, other, second)
                if order is not None:
                    same = level(plus(self.place_in(other, second), -1, self.place_in(write, first)))
                    found.append([*rows, *more, *order, *same])
        return found

    def unwritten(self):
        """Where nothing is written to a place, though the gap is not 0."""
        place = {0: 0, self.first_name: 1}
        rows = [place, shifted(plus(self.length, -1, place), -1)]
        starts = [[*rows, {0: -1, GAP: 1}], [*rows, {0: -1, GAP: -1}]]
        spans = [(write, plain(0)) for write in self.writes]
        return self.avoided(place, starts, spans, self.first_name + 1)

    def wrong_writes(self):
        """Where the last word that is written to a place had been read at another one."""
        found = []
        for write in self.writes:
            turn, rows = self.round_of(write, 0)
            place = self.place_in(write, turn)
            moved = plus(plus(write.value, write.value_rate, turn), -1, place)
            starts = [[*rows, shifted(moved, -1)], [*rows, shifted(negated(moved), -1)]]
            spans = []
            for other in self.writes:
                if other.part > write.part:
                    spans.append((other, plain(0)))
                elif other.part == write.part and write.rounds is not None:
                    spans.append((other, turn if other.at > write.at else shifted(turn, 1)))
            found = found + self.avoided(place, starts, spans, self.first_name + 1)
        return found

    def avoided(self, place, starts, spans, name):
        """From rows that hold at first those with which no write of some, from some round on, is to a place."""
        found = self.able(starts)
        for event, turn in spans:
            ways = self.ways_beside(place, event, turn, name)
            found = self.able([[*rows, *more] for rows in found for more in ways])
            name += 2
        return found

    def ways_beside(self, place, event, turn, name):
        """Rows for each way in which a place is not written by an event from some round on."""
        start = self.place_in(event, turn)
        if event.rounds is None:
            return [[shifted(plus(start, -1, place), -1)], [shifted(plus(place, -1, start), -1)]]
        last = plus(event.form, event.rate, shifted(event.rounds, -1))
        low, high = (start, last) if event.rate > 0 else (last, start)
        ways = [[shifted(plus(low, -1, place), -1)], [shifted(plus(place, -1, high), -1)]]
        by = abs(event.rate)
        if by > 1:
            times, rest = {0: 0, name: 1}, {0: 0, name + 1: 1}
            between = plus(plus(plus(place, -1, low), -by, times), -1, rest)
            inside = [plus(place, -1, low), plus(high, -1, place)]
            ways.append([*inside, *level(between), shifted(rest, -1), shifted(negated(rest), by - 1)])
        return ways
