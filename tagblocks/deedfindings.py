"""What is found of deeds: all honest plays, with open lengths and rooms, and with which rows they break promises."""

from tagblocks.deedjudge import DeedJudge
from tagblocks.deedmachine import DeedMachine, Outcome, HeldPiece
from tagblocks.forms import level, plain, plus, shifted
from tagblocks.opennumbers import OpenNumbers
from tagblocks.solving import Solved, stretches_of
from tagblocks.stretchsets import StretchSet, meeting

# The names of the open numbers: the length, and so many units more than least the room of own has.
LENGTH = 1
UNITS = 2


class OpenWorld:
    """A world in which steps come out in all honest ways, with all rooms."""

    def __init__(self, rules, numbers):
        self.rules = rules
        self.numbers = numbers

    def new_room(self):
        """The room of some block: least and a new number of units."""
        return {0: self.rules.least, self.numbers.new_name(0, None): self.rules.unit}

    def come_out(self, machine, step, piece, amount, slot):
        """How a step comes out; other ways wait."""
        if step[0] == "slot":
            return Outcome("got" if slot in machine.made else self.numbers.offer(("got", "full")))
        if step[0] == "cut":
            room = self.new_room()
            less = [plus(room, -1, amount), shifted(plus(piece.room, -1, room), -1)]
            word = self.numbers.choose([("cut", less), ("kept", [])])
            return Outcome(word, room if word == "cut" else None)
        if step[0] == "grow":
            word = self.numbers.choose([("grown", []), ("stuck", [shifted(plus(amount, -1, piece.room), -1)])])
            return self.with_room(word, "grown", [amount, piece.room])
        if step[0] == "drop":
            return self.with_room(self.numbers.offer(("last", "more")), "last", [plain(self.rules.page)])
        words = ("found", "none") if step[0] == "take" else ("grown", "shut")
        return self.with_room(self.numbers.offer(words), words[0], [amount])

    def with_room(self, word, roomed, lows):
        """An outcome, and if it is one with a room, the room of a block that is below none of some numbers."""
        if word != roomed:
            return Outcome(word)
        room = self.new_room()
        self.numbers.define([plus(room, -1, low) for low in lows])
        return Outcome(word, room)

    def act(self, machine, step, piece, amount, other):
        """A line without outcomes needs nothing of this world."""
        return True


class DeedWay:
    """A play on open numbers: what piece own was, how steps came out, and where promises are broken."""

    def __init__(self, deed, own, machine):
        self.own_sort = None if own is None else own[0]
        self.own_room = None if own is None else own[1]
        self.numbers = machine.numbers
        self.taken = list(machine.taken)
        self.told = machine.told
        self.hand = machine.hand
        self.judge = DeedJudge(deed, machine)


def own_pieces(deed):
    """What own can be: pairs of a sort and a form of its room; None for ask."""
    if deed.code.kind == "ask":
        return [None]
    rules = deed.rules
    places = [("place", plain(slot)) for slot in rules.slots]
    return [*places, ("block", {0: rules.least, UNITS: rules.unit})]


def ways_of(deed, own, solved):
    """All honest plays of a deed with what own can be."""
    ways = []
    waiting = [([], [])]
    while waiting:
        trail, known = waiting.pop()
        numbers = OpenNumbers({LENGTH: 1, UNITS: 0}, {LENGTH: None, UNITS: None}, trail, known, solved)
        piece = None if own is None else HeldPiece(own[0], own[1], None, 0)
        n = None if deed.code.kind == "back" else {0: 0, LENGTH: 1}
        machine = DeedMachine(deed, piece, n, numbers, OpenWorld(deed.rules, numbers))
        if not numbers.is_lost:
            ways.append(DeedWay(deed, own, machine))
        waiting.extend(numbers.waiting)
    return ways


class DeedFindings:
    """The plays of a deed, and what was found of them so far."""

    def __init__(self, deed):
        self.deed = deed
        self.solved = Solved()
        self.ways = [way for own in own_pieces(deed) for way in ways_of(deed, own, self.solved)]
        self.broken = {}
        self.sets = {}

    def systems_for(self, promise):
        """The plays that break a promise, each with rows that can hold where it does."""
        if promise not in self.broken:
            found = []
            for way in self.ways:
                for rows in way.judge.breaches_of(promise):
                    if way.numbers.can_be(rows):
                        found.append((way, way.numbers.whole_rows(rows)))
            self.broken[promise] = found
        return self.broken[promise]

    def lengths_for(self, promise):
        """The set of the lengths at which a promise is broken."""
        systems = [({0: 0, LENGTH: 1}, rows) for _, rows in self.systems_for(promise)]
        return self.numbers_of(("lengths", promise), systems)

    def own_rooms_for(self, promise, sort):
        """The set of the rooms of pieces own of a sort with which a promise is broken."""
        systems = [(way.own_room, rows) for way, rows in self.systems_for(promise) if way.own_sort == sort]
        return self.numbers_of(("own", promise, sort), systems)

    def handed_rooms(self, sort):
        """The set of the rooms of pieces of a sort that are handed out."""
        systems = [(way.hand.room, way.numbers.whole_rows([])) for way in self.ways
                   if way.told == "ok" and way.hand is not None and way.hand.sort_name == sort]
        return self.numbers_of(("handed", sort), systems)

    def numbers_of(self, key, systems):
        """The set of the numbers that forms can be, each where the rows beside it hold; it is known by a key."""
        if key not in self.sets:
            self.sets[key] = StretchSet([one for form, rows in systems for one in stretches_for(rows, form)])
        return self.sets[key]

    def least_case(self, promise, n):
        """The least length from one on, the piece own with the least room and answers that break a promise; or None."""
        systems = self.systems_for(promise)
        length = None
        if self.deed.code.kind != "back":
            length = self.lengths_for(promise).least_from(n)
            if length is None:
                return None
            systems = [(way, [*rows, *level({0: -length, LENGTH: 1})]) for way, rows in systems]
        best = None
        for way, rows in systems:
            found = self.with_least_own(way, rows)
            if found is not None and (best is None or found[0] < best[0]):
                best = (found[0], way, found[1])
        if best is None:
            return None
        key, way, rows = best
        own = None if way.own_sort is None else (way.own_sort, key[0])
        return (own, length, answers_of(way, rows))

    def with_least_own(self, way, rows):
        """A key that is the less the less own's room is, places first, and rows with this room; None if none hold."""
        if way.own_sort is None or way.own_sort == "place":
            room = 0 if way.own_sort is None else way.own_room[0]
            return ((room, 0), rows) if self.solved.can_hold(rows) else None
        stretches = stretches_for(rows, way.own_room)
        if not stretches:
            return None
        room = min([low for low, _, _ in stretches])
        return ((room, 1), [*rows, *level(shifted(way.own_room, -room))])


def stretches_for(rows, form):
    """The stretches of the numbers from 0 on that a form is where rows hold."""
    if len(form) == 2 and form[0] == 0 and [name for name in form if form[name] == 1]:
        return stretches_of(rows, max(form))
    name = max([one for row in [form, *rows] for one in row]) + 1
    told = level(plus({0: 0, name: 1}, -1, form))
    return stretches_of([*rows, *told, {0: 0, name: 1}], name)


def answers_of(way, rows):
    """Answers for the steps of a play with which rows hold."""
    answers = []
    for _, word, room in way.taken:
        number = None
        if room is not None:
            number = min([low for low, _, _ in stretches_for(rows, room)])
            rows = [*rows, *level(shifted(room, -number))]
        answers.append((word, number))
    return answers


def least_meeting(one, other):
    """The least number that two sets have in common, or None."""
    found = [meeting(left, right) for left in one.stretches for right in other.stretches]
    return min([stretch[0] for stretch in found if stretch is not None], default=None)


def deed_findings_of(deed):
    """What is found of a deed; it is looked for once."""
    if deed.findings is None:
        deed.findings = DeedFindings(deed)
    return deed.findings
