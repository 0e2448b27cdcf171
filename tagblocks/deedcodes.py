"""The codes of deeds, and deeds: codes with the rules and the waste by which they are judged."""

from tagblocks.deedlines import DEED_KINDS
from tagblocks.deedoutlines import read_deed
from tagblocks.errors import BadKind, BadNumber
from tagblocks.outlines import refuse_least
from tagblocks.texts import is_among, is_from


class DeedCode:
    """A code of one of three kinds, made from its text."""

    def __init__(self, kind, text):
        if not is_among(kind, DEED_KINDS):
            raise BadKind(kind)
        self.kind = kind
        self.text = text
        self.outline = read_deed(text, kind)
        refuse_least(self.outline.refused_lines())

    def __eq__(self, other):
        return isinstance(other, DeedCode) and self.kind == other.kind and self.text == other.text

    def __len__(self):
        return len(self.outline.rows)

    def __getitem__(self, line):
        return self.outline.rows[line - 1]

    def __iter__(self):
        raise TypeError("codes are not iterated over")


class Deed:
    """Deed rules, a code, and how many words may be wasted."""

    def __init__(self, rules, code, waste=0):
        if not is_from(waste, 0):
            raise BadNumber(waste)
        self.rules = rules
        self.code = code
        self.waste = waste
        # What verdicts have found of this deed, so that it is looked for once.
        self.findings = None

    def __eq__(self, other):
        return (isinstance(other, Deed) and self.rules == other.rules and self.code == other.code
                and self.waste == other.waste)
