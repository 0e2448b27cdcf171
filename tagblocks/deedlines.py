"""The lines of deeds: what each one does, and which of them are limited."""

from tagblocks.texts import comparison_in, sum_in

DEED_KINDS = ("ask", "back", "change")
# How each step can come out.
OUTCOMES = {
    "take": ("found", "none"),
    "top": ("grown", "shut"),
    "slot": ("got", "full"),
    "cut": ("cut", "kept"),
    "grow": ("grown", "stuck"),
    "drop": ("last", "more"),
}
REGISTERS = ("p", "q")
HELD = {"ask": ("p", "q"), "back": ("own", "p", "q"), "change": ("own", "p", "q")}
NAMES = {
    "ask": ("n", "p.room", "q.room", "small", "page", "least", "a", "b"),
    "back": ("own.room", "p.room", "q.room", "small", "page", "least", "a", "b"),
    "change": ("n", "own.room", "p.room", "q.room", "small", "page", "least", "a", "b"),
}
ROOMS = {"own.room": "own", "p.room": "p", "q.room": "q"}
MOST = {"got": 5, "cut": 2, "grow": 1, "drop": 1, "page": 1, "move": 1, "a": 2, "b": 2}


def summed_step(words, kind):
    """What a line does that has a register and a sum behind its word, or None."""
    held = REGISTERS if words[0] in ("take", "top", "slot", "move") else HELD[kind]
    if len(words) < 3 or words[1] not in held or (words[0] == "move" and kind == "ask"):
        return None
    terms = sum_in(words[2:], NAMES[kind])
    return None if terms is None else (words[0], words[1], terms)


def drop_step(words, kind):
    """What a line with drop does, or None."""
    if len(words) != 3 or words[1] not in HELD[kind] or words[2] not in REGISTERS or words[1] == words[2]:
        return None
    return ("drop", words[1], words[2])


def setting_step(words, kind):
    """What a line does that sets a register, or None."""
    if words[0] in REGISTERS:
        is_other = len(words) == 3 and words[2] in REGISTERS and words[2] != words[0]
        return ("copy", words[0], words[2]) if is_other else None
    if words[0] not in ("a", "b"):
        return None
    terms = sum_in(words[2:], NAMES[kind])
    return None if terms is None else ("set", words[0], terms)


def deed_step_in(words, kind):
    """What a line of a deed does, or None."""
    if words in (["quit", "ok"], ["quit", "no"]):
        return ("quit", words[1])
    if words[1:2] == ["="]:
        return setting_step(words, kind)
    if words[0] in ("take", "top", "slot", "cut", "grow", "page", "move"):
        return summed_step(words, kind)
    if words[0] == "drop":
        return drop_step(words, kind)
    if len(words) == 2 and words[0] == "hang" and words[1] in HELD[kind]:
        return ("hang", words[1])
    if len(words) == 2 and words[0] == "hand" and words[1] in (*HELD[kind], "none"):
        return ("hand", words[1])
    return None


def deed_part_in(words, kind):
    """What a part of a test asks, or None."""
    if len(words) == 3 and words[1] == "is" and words[2] in ("place", "block") and words[0] in HELD[kind]:
        return ("sort", words[0], words[2])
    return comparison_in(words, NAMES[kind])


def deed_mark(step):
    """What of a step is limited on each way, or None."""
    if step[0] in ("take", "top", "slot"):
        return "got"
    if step[0] == "set":
        return step[1]
    return step[0] if step[0] in MOST else None
