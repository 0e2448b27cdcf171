"""The lines of slab codes: what each one does, and which of them are limited."""

from tagblocks.texts import comparison_in, number_between, number_in, sum_in

SLAB_KINDS = ("lay", "take", "back")
REGISTERS = ("a", "b", "c")
LAY_NAMES = ("head", "each", "wide", "a", "b", "c", "size", "many", "maps")
PAGE_NAMES = ("head", "each", "wide", "a", "b", "c", "many", "base", "used", "word", "bit", "number", "at")
SET_IN = {
    "lay": ("a", "b", "c", "many", "maps"),
    "take": ("a", "b", "c", "number", "at"),
    "back": ("a", "b", "c", "number", "word", "bit"),
}
WORDS = {
    "lay": ("quit",),
    "take": ("quit", "no", "find", "set", "list", "unlist", "drop"),
    "back": ("quit", "no", "clear", "list", "unlist", "drop"),
}
SIGNS = ("*", "//", "mod", "<<", ">>", "&")
MOST_SHIFT = 63
MOST_ONES = (1 << 63) - 1
MOST = {"a": 4, "b": 4, "c": 4, "number": 1, "used": 1, "find": 1, "set": 1, "clear": 1, "parted": 4, "times": 2}


def names_for(kind):
    """The names of sums in codes of a kind."""
    return LAY_NAMES if kind == "lay" else PAGE_NAMES


def operand_in(sign, word):
    """What is done, and by what number or name, where a sign and a word stand behind a sum; or None."""
    if sign in ("<<", ">>"):
        by = number_between(word, 1, MOST_SHIFT)
        return None if by is None else ("times" if sign == "<<" else "parted", 1 << by)
    if sign == "&":
        ones = number_between(word, 1, MOST_ONES)
        return None if ones is None or ones & (ones + 1) else ("rest", ones + 1)
    by = word if word in ("each", "wide") else number_in(word)
    if by is None or by == 0 or by == 1:
        return None
    return ({"*": "times", "//": "parted", "mod": "rest"}[sign], by)


def slab_step_in(words, kind):
    """What a line of a slab code does, or None; what sets something is (sort, what, sum, number or name)."""
    if len(words) == 1:
        return (words[0],) if words[0] in WORDS[kind] else None
    if len(words) < 3 or words[1] != "=":
        return None
    if words[0] not in SET_IN[kind] and (words[0] != "used" or kind == "lay"):
        return None
    terms = sum_in(words[2:], names_for(kind))
    if terms is not None:
        return ("assign", words[0], terms, 1)
    if words[0] == "used" or len(words) < 5 or words[-2] not in SIGNS:
        return None
    terms = sum_in(words[2:-2], names_for(kind))
    operand = operand_in(words[-2], words[-1])
    return None if terms is None or operand is None else (operand[0], words[0], terms, operand[1])


def slab_part_in(words, kind):
    """What a part of a test asks, or None."""
    if words == ["is", "set"] and kind == "back":
        return ("is set",)
    return comparison_in(words, names_for(kind))


def slab_marks(step):
    """What of a step is limited on each way."""
    if len(step) == 4:
        marks = [step[1]] if step[1] in MOST else []
        if step[0] in ("parted", "rest"):
            marks.append("parted")
        return [*marks, "times"] if step[0] == "times" else marks
    return [step[0]] if step[0] in ("find", "set", "clear") else []


def line_too_late(outline, way):
    """The first line of a way that sets word or bit behind a clear or a test with `is set`, or None."""
    is_late = False
    for line in way:
        step = outline.step_at(line)
        if step[0] == "clear" or (step[0] == "if" and [part for _, part in step[1] if part[0] == "is set"]):
            is_late = True
        if is_late and len(step) == 4 and step[1] in ("word", "bit"):
            return line
    return None
