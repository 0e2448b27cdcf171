"""The lines of top codes: what each one does, and which of them are limited."""

from tagblocks.texts import comparison_in, number_between, sum_in

TOP_KINDS = ("grow", "trim")
REGISTERS = ("a", "b", "c")
NAMES = {
    "grow": ("size", "top", "unit", "least", "page", "fence", "a", "b", "c", "need"),
    "trim": ("size", "top", "unit", "least", "page", "fence", "a", "b", "c"),
}
# What stands for the system in codes of a kind.
CALLS = {"grow": "ask", "trim": "give"}
PARTED = ("up", "down", "//")
MOST = {"a": 3, "b": 3, "c": 3, "top": 2, "parted": 3, "*": 2, "ask": 3, "give": 2}


def divisor_in(word):
    """The number or name by which a line multiplies or divides, or None."""
    return word if word in ("unit", "page") else number_between(word, 2, None)


def top_step_in(words, kind):
    """What a line of a top code does, or None."""
    if words == ["quit"] or (words == ["no"] and kind == "grow"):
        return (words[0],)
    if words[0] == CALLS[kind]:
        terms = sum_in(words[1:], NAMES[kind])
        return None if terms is None else (words[0], terms)
    if len(words) < 3 or words[1] != "=" or words[0] not in (*REGISTERS, "top"):
        return None
    terms = sum_in(words[2:], NAMES[kind])
    if terms is not None:
        return ("set", words[0], terms)
    if words[0] == "top" or words[-2] not in (*PARTED, "*"):
        return None
    terms = sum_in(words[2:-2], NAMES[kind])
    by = divisor_in(words[-1])
    return None if terms is None or by is None else (words[-2], words[0], terms, by)


def top_part_in(words, kind):
    """What a part of a test asks, or None."""
    if words == ["granted"] and kind == "grow":
        return ("granted",)
    return comparison_in(words, NAMES[kind])


def top_marks(step):
    """What of a step is limited on each way."""
    if step[0] in ("ask", "give"):
        return [step[0]]
    if step[0] == "set":
        return [step[1]]
    if step[0] in PARTED:
        return [step[1], "parted"]
    return [step[1], "*"] if step[0] == "*" else []


def divisor_of(step, rules):
    """The number by which a line multiplies or divides."""
    if isinstance(step[3], str):
        return rules.unit if step[3] == "unit" else rules.page
    return step[3]


def line_with_divisor(outline, rules):
    """The first line that divides by a number that does not go with unit, page or one ahead of it, or None."""
    divisors = [rules.unit, rules.page]
    for line in range(1, outline.many_lines() + 1):
        step = outline.step_at(line)
        if step[0] in PARTED:
            by = divisor_of(step, rules)
            if [one for one in divisors if one % by != 0 and by % one != 0]:
                return line
            divisors.append(by)
    return None
