"""The lines of move codes: what each one does, and which lines break a limit inside of a while."""

from tagblocks.texts import comparison_in, names_in, number_between, sum_in

REGISTERS = ("a", "b", "c", "d")
NAMES = ("len", "gap", "a", "b", "c", "d")
HELD = ("w1", "w2", "w3", "w4", "w5", "w6", "w7", "w8")
MOST_FACTOR = 8
MOST_WORDS = 8


def from_step(words):
    """What a line does that reads a word of memory, or None."""
    if len(words) < 4 or words[0] not in HELD or words[1:3] != ["=", "from"]:
        return None
    terms = sum_in(words[3:], NAMES)
    return None if terms is None else ("from", words[0], terms)


def to_step(words):
    """What a line does that writes a word of memory, or None."""
    if len(words) < 4 or words[0] != "to" or words[-2] != "=" or words[-1] not in HELD:
        return None
    terms = sum_in(words[1:-2], NAMES)
    return None if terms is None else ("to", words[-1], terms)


def register_step(words):
    """What a line does that sets a register, or None."""
    if len(words) < 3 or words[0] not in REGISTERS or words[1] != "=":
        return None
    terms = sum_in(words[2:], NAMES)
    if terms is not None:
        return ("set", words[0], terms)
    if words[-2] != "//":
        return None
    terms = sum_in(words[2:-2], NAMES)
    by = number_between(words[-1], 2, MOST_FACTOR)
    return None if terms is None or by is None else ("divided", words[0], terms, by)


def move_step_in(words, kind):
    """What a line of a move code outside of whiles does, or None."""
    if words == ["quit"]:
        return ("quit",)
    for step in (from_step(words), to_step(words), register_step(words)):
        if step is not None:
            return step
    return None


def loop_step_in(words, kind):
    """What a line of a move code in a while does, or None."""
    for step in (from_step(words), to_step(words)):
        if step is not None:
            return ("loop " + step[0], step[1], step[2])
    if len(words) != 5 or words[0] not in REGISTERS or words[1] != "=" or words[2] != words[0]:
        return None
    by = number_between(words[4], 1, MOST_FACTOR)
    if by is None or words[3] not in ("+", "-"):
        return None
    return ("step", words[0], by if words[3] == "+" else -by)


def move_part_in(words, kind):
    """What a part of a test asks, or None."""
    return comparison_in(words, NAMES)


def move_marks(step):
    """What of a step is limited on each way."""
    if step[0] in ("set", "divided"):
        return [step[1]] if step[0] == "set" else [step[1], "divided"]
    return [step[0]] if step[0] in ("from", "to", "while") else []


def lines_of_while(outline, line):
    """The numbers of the lines in a while."""
    return list(range(line + 1, outline.target_at(line) - 1))


def line_in_while(outline, line):
    """The first line of a while, itself too, that breaks a limit, or None."""
    inside = [(one, outline.step_at(one)) for one in lines_of_while(outline, line)]
    stepped = [step[1] for _, step in inside if step[0] == "step"]
    if not [step for _, step in inside if step[0] == "loop to"]:
        return line
    seen = []
    for one, step in inside:
        if step[0] == "step":
            if ("step", step[1]) in seen:
                return one
        elif len([name for name in names_in(step[2]) if name in stepped]) != 1:
            return one
        elif step[0] == "loop to" and ("loop from", step[1]) not in seen:
            return one
        elif len([other for other in seen if other[0] == step[0]]) == MOST_WORDS:
            return one
        seen.append((step[0], step[1]))
    return None


def line_with_factor(outline, unit):
    """The first line whose factor does not go with unit or with one ahead of it, or None."""
    factors = [unit]
    for line in range(1, outline.many_lines() + 1):
        step = outline.step_at(line)
        if step[0] in ("step", "divided"):
            factor = abs(step[-1])
            if [one for one in factors if factor % one != 0 and one % factor != 0]:
                return line
            factors.append(factor)
    return None
