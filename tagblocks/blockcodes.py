"""The codes of blocks: texts that give back, take, grow or cut a block."""

from tagblocks.errors import BadKind
from tagblocks.outlines import line_above, read_outline, refuse_least, ways_through
from tagblocks.texts import comparison_in, is_among, sum_in

BLOCK_KINDS = ("free", "take", "grow", "cut")
REGISTERS = ("a", "b", "c")
PLACES = ("p", "q", "r", "s")
KNOWN = ("own", "p", "q", "r", "s")
LINKED = ("own", "p", "q", "r", "s", "bin")
NAMES = ("a", "b", "c", "want", "unit", "least")
LINKS = ("next", "prev")
FLAGS = {"used": True, "free": False}
WRITING = ("head", "resize", "flag", "foot", "tie")
MOST_LINES = 48
MOST_IFS = 7
MOST = {"a": 3, "b": 3, "c": 3, "p": 4, "q": 4, "r": 4, "s": 4, "read": 12, "write": 14}


def register_step(words):
    """What a line does that sets a register for numbers, or None."""
    if len(words) == 4 and words[2] == "size" and words[3] in KNOWN:
        return ("size", words[0], words[3])
    if len(words) == 5 and words[2:4] == ["size", "ahead"] and words[4] in KNOWN:
        return ("size ahead", words[0], words[4])
    terms = sum_in(words[2:], NAMES)
    return None if terms is None else ("set", words[0], terms)


def place_step(words):
    """What a line does that sets a register for places, or None."""
    if len(words) == 4 and words[2] in LINKS and words[3] in LINKED:
        return ("link", words[0], words[2], words[3])
    if len(words) < 3 or words[2] not in KNOWN:
        return None
    if len(words) == 3:
        return ("copy", words[0], words[2])
    if words[3] not in ("+", "-"):
        return None
    terms = sum_in(words[4:], NAMES)
    times = 1 if words[3] == "+" else -1
    return None if terms is None else ("go", words[0], words[2], times, terms)


def sized_step(words):
    """What a line does that writes a head or a foot, or the size in a head; or None."""
    if len(words) < 4 or words[1] not in KNOWN or words[2] != "=":
        return None
    flags = words[-2:] if words[0] == "head" else []
    terms = sum_in(words[3:len(words) - len(flags)], NAMES)
    if terms is None or [flag for flag in flags if flag not in FLAGS]:
        return None
    if words[0] == "head":
        return ("head", words[1], terms, FLAGS[flags[0]], FLAGS[flags[1]])
    return ("resize" if words[0] == "size" else "foot", words[1], terms)


def flag_step(words):
    """What a line does that changes a flag of a head, or None."""
    which = "ahead" if words[0] == "ahead" else "used"
    rest = words[1:] if which == "ahead" else words
    if len(rest) != 2 or rest[0] not in FLAGS or rest[1] not in KNOWN:
        return None
    return ("flag", rest[1], which, FLAGS[rest[0]])


def tie_step(words):
    """What a line does that writes a link, or None."""
    if len(words) != 4 or words[1] not in LINKED or words[2] != "=" or words[3] not in LINKED:
        return None
    return ("tie", words[0], words[1], words[3])


def block_step_in(words, kind):
    """What a line of a block code of any kind does, or None."""
    if words in (["quit"], ["no"]):
        return (words[0],)
    if words[1:2] == ["="]:
        if words[0] in REGISTERS:
            return register_step(words)
        return place_step(words) if words[0] in PLACES else None
    if words[0] in ("head", "size", "foot"):
        return sized_step(words)
    if words[0] in ("used", "free", "ahead"):
        return flag_step(words)
    return tie_step(words) if words[0] in LINKS else None


def block_part_in(words, kind):
    """What a part of a test asks, or None."""
    if len(words) == 2 and words[0] == "used" and words[1] in KNOWN:
        return ("used", words[1])
    if len(words) == 3 and words[:2] == ["ahead", "used"] and words[2] in KNOWN:
        return ("ahead", words[2])
    if len(words) == 3 and words[1:] == ["is", "bin"] and words[0] in KNOWN:
        return ("bin", words[0])
    return comparison_in(words, NAMES)


def marks_of(step):
    """What of a step is limited on each way."""
    if step[0] == "if":
        return ["read" for _, part in step[1] if part[0] in ("used", "ahead")]
    if step[0] in ("size", "size ahead", "link"):
        return [step[1], "read"]
    if step[0] in ("set", "copy", "go"):
        return [step[1]]
    return ["write"] if step[0] in WRITING else []


def is_foreign(row, step, kind):
    """Whether a line is not for codes of a kind, though it has a form."""
    if kind == "free" and "want" in row.split(" "):
        return True
    return step[0] == "no" and kind in ("free", "cut")


class BlockCode:
    """A code of one of four kinds for blocks of some rules, made from its text."""

    def __init__(self, kind, rules, text):
        if not is_among(kind, BLOCK_KINDS):
            raise BadKind(kind)
        self.kind = kind
        self.rules = rules
        self.text = text
        self.outline = read_outline(text, kind, block_step_in, block_part_in, MOST_LINES, MOST_IFS)
        foreign = [line for line in range(1, self.outline.many_lines() + 1)
                   if is_foreign(self.outline.rows[line - 1], self.outline.step_at(line), kind)]
        above = [line_above(self.outline, way, marks_of, dict(MOST)) for way in ways_through(self.outline)]
        refuse_least(foreign + above)
        # What verdicts have found of this code, so that it is looked for once.
        self.findings = None

    def __eq__(self, other):
        return (isinstance(other, BlockCode) and self.kind == other.kind and self.rules == other.rules
                and self.text == other.text)

    def __len__(self):
        return len(self.outline.rows)

    def __getitem__(self, line):
        return self.outline.rows[line - 1]

    def __iter__(self):
        raise TypeError("codes are not iterated over")
