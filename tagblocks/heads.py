"""Heads and roundings: rules with the codes that are played by them."""

from tagblocks.errors import BadKind, BadNumber, OtherKinds
from tagblocks.headcodes import HEAD_KINDS
from tagblocks.headplay import play_head
from tagblocks.texts import is_among


class Heads:
    """Head rules and a head code of each of the eight kinds."""

    def __init__(self, rules, codes):
        if [code.kind for code in codes] != list(HEAD_KINDS):
            raise OtherKinds("heads")
        self.rules = rules
        self.codes = tuple(codes)

    def __eq__(self, other):
        return isinstance(other, Heads) and self.rules == other.rules and self.codes == other.codes

    def code_for(self, kind):
        """The code of a kind."""
        if not is_among(kind, HEAD_KINDS):
            raise BadKind(kind)
        return self.codes[HEAD_KINDS.index(kind)]

    def with_code(self, code):
        """Heads that have this code for its kind."""
        if code.kind not in HEAD_KINDS:
            raise OtherKinds("heads")
        return Heads(self.rules, [code if one.kind == code.kind else one for one in self.codes])

    def word_of(self, size, used, ahead):
        """The word that make tells for three words."""
        for value in (size, used, ahead):
            if not self.rules.is_word(value):
                raise BadNumber(value)
        return play_head(self.codes[0], self.rules.wide, (size, used, ahead))

    def read(self, kind, word):
        """What the code of a kind other than make tells of a word."""
        if not is_among(kind, HEAD_KINDS[1:]):
            raise BadKind(kind)
        if not self.rules.is_word(word):
            raise BadNumber(word)
        return play_head(self.code_for(kind), self.rules.wide, (word,))


class Rounding:
    """Head rules and a round code."""

    def __init__(self, rules, code):
        if code.kind != "round":
            raise OtherKinds("heads")
        self.rules = rules
        self.code = code

    def __eq__(self, other):
        return isinstance(other, Rounding) and self.rules == other.rules and self.code == other.code

    def size_for(self, n):
        """The size that is told for a length, or None if it is refused."""
        if not self.rules.is_word(n):
            raise BadNumber(n)
        return play_head(self.code, self.rules.wide, (n,))
