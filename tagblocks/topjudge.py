"""Where plays of top codes break promises: lists of rows, of which all can hold."""

from tagblocks.forms import level, negated, plain, plus, shifted

TOP_PROMISES = {"grow": ("inside", "true", "enough", "spare", "full"),
                "trim": ("inside", "true", "rest", "keep", "idle")}


def below(one, other):
    """The row that tells that a form is below another one."""
    return shifted(plus(other, -1, one), -1)


def unlike(one, other):
    """Lists of rows with one of which two forms differ."""
    return [[below(one, other)], [below(other, one)]]


class TopJudge:
    """A play of a top code that is over."""

    def __init__(self, machine):
        self.machine = machine
        self.rules = machine.rules
        self.ended = machine.ended
        self.size = machine.worths["size"]
        self.top = machine.worths["top"]

    def breaches_of(self, promise):
        """Lists of rows with one of which a promise is broken."""
        if promise == "inside" or self.ended == "beyond":
            return [[]] if promise == "inside" and self.ended == "beyond" else []
        if promise == "true":
            return self.untrue()
        if promise == "full":
            return self.wrongly_refused() if self.ended == "refused" else []
        if self.ended != "done":
            return []
        if promise == "enough":
            return [[below(self.top, self.machine.wanted)]]
        if promise == "spare":
            grown = plus(self.size, -1, self.machine.start_size)
            # What memory grew by is a multiple of page, so it is too much from a page more than is missing on.
            return [[plus(grown, -1, shifted(self.missing(), self.rules.waste + self.rules.page))]]
        if promise == "rest":
            return [[shifted(self.top, -1), below(self.top, plain(self.rules.least))]]
        if promise == "keep":
            return [[below(self.size, self.machine.start_size), below(self.top, plain(self.rules.keep))]]
        return [] if self.rules.idle is None else [[shifted(self.top, -self.rules.idle)]]

    def has_words(self):
        """Whether memory had words at the start: its size is 0, or surely is not."""
        return self.machine.start_size != plain(0)

    def missing(self):
        """The words that are missing."""
        words = plus(self.machine.wanted, -1, self.machine.start_top)
        return words if self.has_words() else shifted(words, self.rules.fence)

    def base(self):
        """The words of all other blocks."""
        if not self.has_words():
            return plain(0)
        return shifted(plus(self.machine.start_size, -1, self.machine.start_top), -self.rules.fence)

    def owed_top(self):
        """The top that is true if memory has words."""
        return plus(shifted(self.size, -self.rules.fence), -1, self.base())

    def untrue(self):
        """Where the top is not what memory has behind all other blocks."""
        some = shifted(self.size, -1)
        none = [*level(self.size), shifted(self.top, -1)]
        return [[some, *rows] for rows in unlike(self.top, self.owed_top())] + [none]

    def wrongly_refused(self):
        """Where the play is refused though pages for the missing words are to be had, or left another size or top."""
        changed = unlike(self.size, self.machine.start_size) + unlike(self.top, self.machine.start_top)
        if self.rules.limit is None:
            return [[]]
        pages = {0: 0, self.machine.numbers.next_name(): self.rules.page}
        room = shifted(negated(self.machine.start_size), self.rules.limit)
        return [*changed, [plus(pages, -1, self.missing()), plus(room, -1, pages)]]

    def kept_rows(self):
        """Lists of rows with one of which a play of grow that is done keeps true and enough."""
        enough = plus(self.top, -1, self.machine.wanted)
        # Need is 1 or more, so where top is enough, memory has words if the top is true.
        return [enough, shifted(self.size, -1), *level(plus(self.top, -1, self.owed_top()))]
