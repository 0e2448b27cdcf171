"""Where plays of slab codes on open numbers break promises: rows that can hold together with those of the play."""

from tagblocks.forms import level, negated, plain, plus, shifted
from tagblocks.slabsorts import MANY, PLACE, SIZE, USED

PROMISES = {
    "lay": ("inside", "fits", "most"),
    "take": ("inside", "number", "own", "counts", "full"),
    "back": ("inside", "number", "own", "counts", "full", "odd", "twice"),
}


def unlike(one, other):
    """The two ways in which two forms can differ."""
    gap = plus(one, -1, other)
    return [[shifted(gap, -1)], [shifted(negated(gap), -1)]]


def fit_form(rules, many):
    """What is 0 or more exactly if so many places fit into the size."""
    places = plus(many, rules.wide * rules.each, many)
    room = {0: -rules.head * rules.wide, SIZE: rules.wide}
    return plus(room, -1, places)


class LayJudge:
    """A play of lay that is over."""

    def __init__(self, machine, ended):
        self.rules = machine.rules
        self.numbers = machine.numbers
        self.ended = ended
        self.many = machine.worths["many"]
        self.maps = machine.worths["maps"]

    def breaches_of(self, promise):
        """Lists of rows with one of which a promise is broken."""
        if promise == "inside":
            return [[]] if self.ended == "beyond" else []
        if self.ended == "beyond":
            return []
        room = fit_form(self.rules, self.many)
        spare = plus(plus(plain(0), self.rules.wide, self.maps), -1, self.many)
        if promise == "fits":
            return [[negated(self.many)], [shifted(negated(room), -1)], [shifted(negated(spare), -1)],
                    [shifted(spare, -self.rules.wide)]]
        fits = [shifted(self.many, -1), room, spare, shifted(negated(spare), self.rules.wide - 1)]
        return [[*fits, fit_form(self.rules, shifted(self.many, 1))]]


class PageJudge:
    """A play of take or back that is over."""

    def __init__(self, machine, ended):
        self.machine = machine
        self.page_sort = machine.page_sort
        self.rules = machine.rules
        self.numbers = machine.numbers
        self.ended = ended

    def breaches_of(self, promise):
        """Lists of rows with one of which a promise is broken."""
        if promise == "inside":
            is_asked = self.page_sort.is_owing or self.page_sort.kind == "take"
            return [[]] if is_asked and self.ended == "beyond" else []
        if promise in ("odd", "twice"):
            is_asked = not self.page_sort.is_owing and (self.page_sort.where == "place") == (promise == "twice")
            return [[]] if is_asked and not self.is_plain_no() else []
        if promise == "full":
            return self.unfit_ends()
        if not self.page_sort.is_owing or self.ended != "done":
            return []
        if promise == "number":
            return self.wrong_numbers()
        return self.wrong_bits() if promise == "own" else self.wrong_counts()

    def is_plain_no(self):
        """Whether the play is refused, and nothing was changed ahead of that."""
        return self.ended == "refused" and not self.machine.has_changed

    def unfit_ends(self):
        """Where a play is refused that should not be, or, of take, the other way."""
        if self.page_sort.is_owing:
            return [[]] if self.ended == "refused" else []
        is_asked = self.page_sort.kind == "take" and self.ended != "beyond"
        return [[]] if is_asked and not self.is_plain_no() else []

    def place(self):
        """The place that is lent or brought back; None if take did not look for one."""
        return {0: 0, PLACE: 1} if self.page_sort.kind == "back" else self.machine.found

    def wrong_numbers(self):
        """Where number is not set to that of the place."""
        if self.machine.number_set is None or self.place() is None:
            return [[]]
        return unlike(self.machine.number_set, self.place())

    def wrong_bits(self):
        """Where number is set so, but the bits are not left as owed, or at is not, in take."""
        if self.machine.number_set is None or self.place() is None:
            return []
        right = level(plus(self.machine.number_set, -1, self.place()))
        if not self.machine.has_marked:
            return [right]
        if self.page_sort.kind == "back":
            ways = unlike(self.machine.asked, self.place())
        else:
            first = plus(self.page_sort.base(), self.rules.each, self.place())
            ways = unlike(self.machine.worths["at"], first)
        return [[*right, *way] for way in ways]

    def wrong_counts(self):
        """Where used, or whether the page is listed or dropped, is not left as owed."""
        used = {0: 0, USED: 1}
        if self.page_sort.kind == "take":
            behind = shifted(used, 1)
            rest = plus({0: 0, MANY: 1}, -1, behind)
            ends = [(level(rest), (False, False)), ([shifted(rest, -1)], (True, False))]
        else:
            behind = shifted(used, -1)
            ends = [(level(behind), (False, True)), ([shifted(behind, -1)], (True, False))]
        found = (self.machine.is_listed, self.machine.is_dropped)
        return unlike(self.machine.worths["used"], behind) + [rows for rows, owed in ends if owed != found]
