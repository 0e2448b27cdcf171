"""Where plays of deeds break promises: lists of rows, of which all can hold."""

from tagblocks.forms import plus, shifted

DEED_PROMISES = ("inside", "whole", "owed", "back", "told", "close")


def below(one, other):
    """The row that tells that a form is below another one."""
    return shifted(plus(other, -1, one), -1)


class DeedJudge:
    """A play of a deed that is over, and what it owes."""

    def __init__(self, deed, machine):
        self.kind = deed.code.kind
        self.waste = deed.waste
        self.machine = machine
        self.hand = machine.hand
        self.own = machine.own
        self.n = machine.worths["n"]

    def breaches_of(self, promise):
        """Lists of rows with one of which a promise is broken."""
        if promise == "inside" or self.machine.ended == "beyond":
            return [[]] if promise == "inside" and self.machine.ended == "beyond" else []
        if promise == "whole":
            return self.pieces_left()
        is_ok = self.machine.told == "ok"
        if promise == "owed":
            return self.not_owed() if is_ok else []
        if promise == "close":
            return self.not_close() if is_ok and self.kind != "back" else []
        if is_ok:
            return []
        if promise == "told":
            return [] if self.machine.has_failed else [[]]
        return self.not_back()

    def pieces_left(self):
        """Where a piece is out that is not the hand, or the hand is not out."""
        for piece in self.machine.pieces:
            is_hand = self.is_hand(piece)
            if piece.is_out != is_hand:
                return [[]]
        return []

    def is_hand(self, piece):
        """Whether a piece is the hand."""
        return self.hand is not None and self.hand.number == piece.number

    def not_owed(self):
        """Where the user does not have what is owed."""
        if self.kind == "back":
            return [] if self.hand is None else [[]]
        if self.hand is None:
            return [[]]
        found = [[below(self.hand.room, self.n)]]
        if self.kind == "ask":
            return found
        start = self.machine.start_room
        if not self.hand.words:
            return [[]]
        return found + [[below(words, self.n), below(words, start)] for words in self.hand.words]

    def not_back(self):
        """Where the user does not have what was there at the start."""
        if self.own is None:
            return [] if self.hand is None else [[]]
        if not (self.hand is not None and self.is_hand(self.own)):
            return [[]]
        start = self.machine.start_room
        return [[below(number, start)] for number in [self.own.room, *self.own.words]]

    def not_close(self):
        """Where the hand is a block that was not cut, or with too great a sum."""
        if self.hand is None or self.hand.sort_name == "place":
            return []
        if self.hand.cut_to is None:
            return [[]]
        return [[below(shifted(self.n, self.waste), self.hand.cut_to)]]
