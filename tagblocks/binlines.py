"""The lines of class codes and map codes: what each one does, and which lines break a limit."""

from tagblocks.texts import comparison_in, names_in, number_between, sum_in, term_in

REGISTERS = ("a", "b", "c")
CLASS_REGISTERS = ("a", "b", "c", "bin")
CLASS_HANDED = {"hang": "size", "ask": "len"}
MAP_NAMES = ("bin", "a", "b", "c")
PATTERNS = ("p", "q")
CHANGES = ("from", "with", "without")
# The least number that stands behind a sign, and what the step is called.
SIGNS = {"*": (0, "times"), "//": (2, "divided"), "mod": (2, "rest")}


def class_names(kind):
    """The names of sums in class codes of a kind."""
    return (*CLASS_REGISTERS, "last", CLASS_HANDED[kind])


def reckoned_step(words, names, signs):
    """What a line does that sets a register to a sum, or to what a sign and a number make of one; or None."""
    terms = sum_in(words[2:], names)
    if terms is not None:
        return ("set", words[0], terms)
    if len(words) < 5 or words[-2] not in signs:
        return None
    least, sort = SIGNS[words[-2]]
    terms = sum_in(words[2:-2], names)
    number = number_between(words[-1], least, None)
    return None if terms is None or number is None else (sort, words[0], terms, number)


def class_step_in(words, kind):
    """What a line of a class code does, or None."""
    if words == ["quit"] or (kind == "ask" and words in (["no"], ["look"])):
        return (words[0],)
    if len(words) < 3 or words[1] != "=" or words[0] not in CLASS_REGISTERS:
        return None
    names = class_names(kind)
    if words[2] == "bits":
        terms = sum_in(words[3:], names)
        return None if terms is None else ("bits", words[0], terms)
    if words[-2] == ">>" and words[-1] in CLASS_REGISTERS:
        terms = sum_in(words[2:-2], names)
        return None if terms is None else ("down", words[0], terms, words[-1])
    return reckoned_step(words, names, ("*", "//"))


def class_part_in(words, kind):
    """What a part of a test of a class code asks, or None."""
    return comparison_in(words, class_names(kind))


def is_fixed(names, fixed):
    """Whether all of some names are fixed."""
    return not [name for name in names if name not in fixed]


def compares_open(test, fixed):
    """Whether in some comparison of a test neither side is fixed."""
    for _, part in test:
        if not [side for side in part[1:] if not isinstance(side, str) or side in fixed]:
            return True
    return False


def line_not_fixed(outline, way):
    """The first line of a way through a class code that breaks a limit, or None."""
    fixed = {name: True for name in (*CLASS_REGISTERS, "last")}
    has_bits = False
    for line in way:
        step = outline.step_at(line)
        if step[0] == "if":
            if compares_open(step[1], fixed):
                return line
        elif len(step) > 1:
            if breaks_class(step, fixed, has_bits):
                return line
            has_bits = has_bits or step[0] == "bits"
            if step[0] == "bits" or is_fixed(names_in(step[2]), fixed):
                fixed[step[1]] = True
            else:
                fixed.pop(step[1], None)
    return None


def breaks_class(step, fixed, has_bits):
    """Whether a line that sets a register breaks a limit, where some names are fixed and bits stood or not."""
    if [term for sign, term in step[2] if sign < 0 and isinstance(term, str)]:
        return True
    if step[0] == "bits":
        return has_bits
    return step[0] == "down" and step[3] not in fixed


def pattern_step(words):
    """What a line does that sets a pattern, or None."""
    if words[2:] == ["roof"]:
        return ("roof", words[0])
    if len(words) == 3 and words[2] in PATTERNS:
        return ("copy", words[0], words[2])
    if len(words) == 4 and words[2] == "word":
        return termed("word", words[0], words[3])
    return None


def termed(sort, name, word):
    """A step with a name or number, or None if a word is neither."""
    term = term_in(word, MAP_NAMES)
    return None if term is None else (sort, name, term)


def writing_step(words):
    """What a line does that writes a word of the map or the roof, or None."""
    if words[-2:-1] != ["="] or words[-1] not in PATTERNS:
        return None
    if words[:-2] == ["roof"]:
        return ("write roof", words[-1])
    if len(words) == 4 and words[0] == "word":
        return termed("write word", words[-1], words[1])
    return None


def map_step_in(words, kind):
    """What a line of a map code does, or None."""
    if words == ["quit"] or (kind == "find" and words == ["none"]):
        return (words[0],)
    if words[0] == "tell" and kind == "find" and len(words) == 2:
        term = term_in(words[1], MAP_NAMES)
        return None if term is None else ("tell", term)
    if words[1:2] == ["="] and words[0] in PATTERNS:
        return pattern_step(words)
    if words[1:2] == ["="] and words[0] in REGISTERS:
        if len(words) == 4 and words[2] == "first" and words[3] in PATTERNS:
            return ("first", words[0], words[3])
        return reckoned_step(words, MAP_NAMES, ("*", "//", "mod"))
    if len(words) == 3 and words[0] in PATTERNS and words[1] in CHANGES:
        return termed(words[1], words[0], words[2])
    return writing_step(words) if kind != "find" else None


def map_part_in(words, kind):
    """What a part of a test of a map code asks, or None."""
    if len(words) == 2 and words[0] in PATTERNS and words[1] == "empty":
        return ("empty", words[0])
    return comparison_in(words, MAP_NAMES)


def map_marks(step):
    """What of a step of a map code is limited on each way."""
    if step[0] == "if":
        return ["seen" for _, part in step[1] if part[0] == "empty"]
    return ["seen"] if step[0] == "first" else []
