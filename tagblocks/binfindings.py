"""What is found of bins: for each promise the lengths at which it is broken."""

from tagblocks.classpieces import Asked, pieces_of
from tagblocks.spans import joined_spans, spans_without


class BinFindings:
    """The pieces of the sizes and lengths of bins, and the bounds of the bins."""

    def __init__(self, bins):
        self.bins = bins
        self.rules = bins.rules
        self.last_length = self.rules.most - self.rules.over
        unit = self.rules.unit
        self.sizes = pieces_of(Asked(bins.hangs, self.rules, unit), self.rules.least // unit, self.rules.most // unit)
        self.lengths = pieces_of(Asked(bins.asks, self.rules, 1), 1, self.last_length)
        self.hung = [piece for piece in self.sizes if piece.number is not None]
        self.floors = [self.floor_of(number) for number in range(self.rules.bins)]
        self.ceilings = [self.ceiling_of(number) for number in range(self.rules.bins)]
        self.rows = {}

    def floor_of(self, number):
        """The least size whose bin is a number or above it, or None."""
        for piece in self.hung:
            if piece.number >= number:
                return piece.low * self.rules.unit
        return None

    def ceiling_of(self, number):
        """The greatest size whose bin is below a number, or None."""
        for piece in reversed(list(self.hung)):
            if piece.number < number:
                return piece.high * self.rules.unit
        return None

    def lengths_for(self, piece):
        """The least and the greatest length whose need is in a piece of sizes."""
        unit = self.rules.unit
        first = 1 if piece.low * unit == self.rules.least else (piece.low - 1) * unit - self.rules.over + 1
        return (first, piece.high * unit - self.rules.over)

    def last_with(self, size):
        """The greatest length whose need is not above a size, 0 if there is none."""
        size = size - size % self.rules.unit
        return size - self.rules.over if size >= self.rules.least else 0

    def row_for(self, promise):
        """The row of the lengths at which a promise is broken."""
        if promise not in self.rows:
            if promise == "inside":
                spans = self.beyond_spans()
            elif promise == "safe":
                spans = self.unsafe_spans()
            elif promise == "found":
                spans = self.lost_spans()
            elif promise == "again":
                spans = self.again_spans()
            else:
                spans = spans_without(joined_spans(self.order_spans()), self.ask_beyond())
            self.rows[promise] = joined_spans(spans)
        return self.rows[promise]

    def ask_beyond(self):
        """The row of the lengths whose ask is beyond."""
        return joined_spans([(piece.low, piece.high) for piece in self.lengths if piece.ended == "beyond"])

    def beyond_spans(self):
        """Where ask or hang is beyond."""
        hangs = [self.lengths_for(piece) for piece in self.sizes if piece.number is None]
        return self.ask_beyond() + hangs

    def unsafe_spans(self):
        """Where a size that is too small can be found: from some length of a piece on."""
        spans = []
        for piece in self.lengths:
            if piece.number is not None:
                size = self.floor_for(piece)
                if size is not None:
                    spans.append((max(piece.low, size - self.rules.over + 1), piece.high))
        return spans

    def floor_for(self, piece):
        """The least size that is found behind the bin that is told, or in it, if blocks are not looked at there."""
        number = piece.number + 1 if piece.is_looking else piece.number
        return self.floors[number] if number < self.rules.bins else None

    def ceiling_for(self, piece):
        """The greatest size that is not found, though it may be enough."""
        return self.rules.most if piece.ended == "refused" else self.ceilings[piece.number]

    def lost_spans(self):
        """Where a size that is enough is not found: up to some length of a piece."""
        spans = []
        for piece in self.lengths:
            if piece.ended != "beyond":
                size = self.ceiling_for(piece)
                if size is not None:
                    spans.append((piece.low, min(piece.high, self.last_with(size - self.bins.waste))))
        return spans

    def again_spans(self):
        """Where a block that goes back at once is not found again."""
        spans = [(piece.low, piece.high) for piece in self.lengths if piece.ended == "refused"]
        at = 0
        for piece in self.hung:
            low, high = self.lengths_for(piece)
            while self.lengths[at].high < low:
                at += 1
            k = at
            while k < len(self.lengths) and self.lengths[k].low <= high:
                told = self.lengths[k]
                if told.number is not None and told.number > piece.number:
                    spans.append((max(low, told.low), min(high, told.high)))
                k += 1
        return spans

    def order_spans(self):
        """Where a lesser size has a greater bin."""
        spans = []
        highest = 0
        for piece in self.hung:
            if piece.number < highest:
                spans.append(self.lengths_for(piece))
            highest = max(highest, piece.number)
        return spans

    def piece_at(self, n):
        """The piece of a length."""
        return [piece for piece in self.lengths if piece.low <= n <= piece.high][0]

    def shown_by(self, promise, n):
        """A size that shows that a promise is broken at a length, or None."""
        piece = self.piece_at(n)
        if promise == "safe":
            return self.floor_for(piece)
        if promise == "found":
            return self.ceiling_for(piece)
        need = self.rules.need(n)
        if promise == "again" and piece.ended != "refused":
            return need
        if promise == "order":
            own = [one for one in self.hung if one.low * self.rules.unit <= need <= one.high * self.rules.unit][0]
            return [one for one in self.hung if one.number > own.number][0].low * self.rules.unit
        return None


def findings_of(bins):
    """What is found of bins; it is looked for once."""
    if bins.findings is None:
        bins.findings = BinFindings(bins)
    return bins.findings
