"""The codes of bins: class codes from sizes and lengths to bins, and map codes, with the rules they are played by."""

from tagblocks.binlines import class_part_in, class_step_in, line_not_fixed, map_marks, map_part_in, map_step_in
from tagblocks.errors import BadKind, BadNumber, OtherKinds
from tagblocks.outlines import line_above, read_outline, refuse_least, ways_through
from tagblocks.texts import is_among, is_from

CLASS_KINDS = ("hang", "ask")
MAP_KINDS = ("find", "mark", "clear")
MOST_CLASS_LINES = 20
MOST_CLASS_IFS = 4
MOST_MAP_LINES = 24
MOST_MAP_IFS = 6
MOST_MAP = {"seen": 5}


class BinCode:
    """A class code of one of two kinds, made from its text."""

    def __init__(self, kind, text):
        if not is_among(kind, CLASS_KINDS):
            raise BadKind(kind)
        self.kind = kind
        self.text = text
        self.outline = read_outline(text, kind, class_step_in, class_part_in, MOST_CLASS_LINES, MOST_CLASS_IFS)
        refuse_least([line_not_fixed(self.outline, way) for way in ways_through(self.outline)])

    def __eq__(self, other):
        return isinstance(other, BinCode) and self.kind == other.kind and self.text == other.text

    def __len__(self):
        return len(self.outline.rows)

    def __getitem__(self, line):
        return self.outline.rows[line - 1]

    def __iter__(self):
        raise TypeError("codes are not iterated over")


class MapCode:
    """A map code of one of three kinds, made from its text."""

    def __init__(self, kind, text):
        if not is_among(kind, MAP_KINDS):
            raise BadKind(kind)
        self.kind = kind
        self.text = text
        self.outline = read_outline(text, kind, map_step_in, map_part_in, MOST_MAP_LINES, MOST_MAP_IFS)
        refuse_least([line_above(self.outline, way, map_marks, dict(MOST_MAP)) for way in ways_through(self.outline)])

    def __eq__(self, other):
        return isinstance(other, MapCode) and self.kind == other.kind and self.text == other.text

    def __len__(self):
        return len(self.outline.rows)

    def __getitem__(self, line):
        return self.outline.rows[line - 1]

    def __iter__(self):
        raise TypeError("codes are not iterated over")


class Bins:
    """Bin rules, a class code of each kind, and how many words may be wasted."""

    def __init__(self, rules, hangs, asks, waste=0):
        if (hangs.kind, asks.kind) != CLASS_KINDS:
            raise OtherKinds("bins")
        if not is_from(waste, 0):
            raise BadNumber(waste)
        self.rules = rules
        self.hangs = hangs
        self.asks = asks
        self.waste = waste
        self.findings = None

    def __eq__(self, other):
        return (isinstance(other, Bins) and self.rules == other.rules and self.hangs == other.hangs
                and self.asks == other.asks and self.waste == other.waste)


class BinMaps:
    """Bin rules and a map code of each kind."""

    def __init__(self, rules, codes):
        if [code.kind for code in codes] != list(MAP_KINDS):
            raise OtherKinds("maps")
        self.rules = rules
        self.codes = tuple(codes)
        self.findings = None

    def __eq__(self, other):
        return isinstance(other, BinMaps) and self.rules == other.rules and self.codes == other.codes

    def code_for(self, kind):
        """The code of a kind."""
        if not is_among(kind, MAP_KINDS):
            raise BadKind(kind)
        return self.codes[MAP_KINDS.index(kind)]
