"""The codes of heads: texts that pack a head, read it or change a flag of it, or tell a size for a length."""

from tagblocks.errors import BadKind
from tagblocks.outlines import line_above, read_outline, refuse_least, ways_through
from tagblocks.texts import comparison_in, is_among, number_between, sum_in

HEAD_KINDS = ("make", "size", "used", "ahead", "use", "free", "meet", "part")
REGISTERS = ("a", "b", "c")
HANDED = {
    "make": ("size", "used", "ahead"),
    "size": ("word",),
    "used": ("word",),
    "ahead": ("word",),
    "use": ("word",),
    "free": ("word",),
    "meet": ("word",),
    "part": ("word",),
    "round": ("n",),
}
TOLD = {
    "make": "word",
    "size": "size",
    "used": "used",
    "ahead": "ahead",
    "use": "word",
    "free": "word",
    "meet": "word",
    "part": "word",
    "round": "size",
}
SHIFTS = ("<<", ">>")
MASKS = ("&", "&~", "|", "^")
MOST_SHIFT = 63
RUN_TOP = 1 << 64
MOST_LINES = 20
MOST_IFS = 4
MOST_SET = 3
MOST_MADE = 6


def is_run(number):
    """Whether the ones of a number, written in twos, stand side by side."""
    if number < 1 or number >= RUN_TOP:
        return False
    return number & (number + (number & -number)) == 0


def names_for(kind):
    """The names of sums in codes of a kind."""
    return (*REGISTERS, *HANDED[kind], TOLD[kind])


def operand_in(sign, word):
    """The number that stands behind a sign like << or &, or None."""
    if sign in SHIFTS:
        return number_between(word, 1, MOST_SHIFT)
    if sign not in MASKS:
        return None
    number = number_between(word, 1, None)
    return number if number is not None and is_run(number) else None


def head_step_in(words, kind):
    """What a line of a head code does, or None: its ends, or (set, what is set, sum, sign or None, number)."""
    if words == ["quit"] or (words == ["no"] and kind == "round"):
        return (words[0],)
    if len(words) < 3 or words[1] != "=" or words[0] not in (*REGISTERS, TOLD[kind]):
        return None
    plain = sum_in(words[2:], names_for(kind))
    if plain is not None:
        return ("set", words[0], plain, None, 0)
    terms = sum_in(words[2:-2], names_for(kind))
    operand = operand_in(words[-2], words[-1])
    if terms is None or operand is None:
        return None
    return ("set", words[0], terms, words[-2], operand)


def head_part_in(words, kind):
    """What a part of a test asks, or None."""
    return comparison_in(words, names_for(kind))


def marks_of(step):
    """What of a step is limited on each way."""
    if step[0] != "set":
        return []
    return [step[1]] if step[3] is None else [step[1], "made"]


class HeadCode:
    """A code of one of nine kinds, made from its text."""

    def __init__(self, kind, text):
        if not is_among(kind, (*HEAD_KINDS, "round")):
            raise BadKind(kind)
        self.kind = kind
        self.text = text
        self.outline = read_outline(text, kind, head_step_in, head_part_in, MOST_LINES, MOST_IFS)
        most = {name: MOST_SET for name in (*REGISTERS, TOLD[kind])}
        most["made"] = MOST_MADE
        refuse_least([line_above(self.outline, way, marks_of, most) for way in ways_through(self.outline)])

    def __eq__(self, other):
        return isinstance(other, HeadCode) and self.kind == other.kind and self.text == other.text

    def __len__(self):
        return len(self.outline.rows)

    def __getitem__(self, line):
        return self.outline.rows[line - 1]

    def __iter__(self):
        raise TypeError("codes are not iterated over")
