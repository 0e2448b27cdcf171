"""What all texts of codes have in common: numbers, sums and tests."""

MOST_FIGURES = 30
MOST_TERMS = 4
MOST_PARTS = 4
COMPARISONS = ("<", "<=", "is")


def is_whole(value):
    """Whether a value is an integer (True and False are none)."""
    return isinstance(value, int) and not isinstance(value, bool)


def is_from(value, least):
    """Whether a value is an integer that is not below the least one."""
    return is_whole(value) and value >= least


def is_among(value, words):
    """Whether a value, of any kind, is one of some words."""
    return isinstance(value, str) and value in words


def lines_of(text):
    """The lines of a text: none if it has no signs."""
    if text == "":
        return []
    return text.split("\n")


def number_in(word):
    """The number that a word writes, or None."""
    if not word.isdigit() or len(word) > MOST_FIGURES:
        return None
    if len(word) > 1 and word.startswith("0"):
        return None
    return int(word)


def number_between(word, least, most):
    """The number that a word writes, if it lies between two others, else None; most may be None."""
    number = number_in(word)
    if number is None or number < least or (most is not None and number > most):
        return None
    return number


def term_in(word, names):
    """A term of a sum: one of the names, or a number; or None."""
    if word in names:
        return word
    return number_in(word)


def sum_in(words, names):
    """The sum that some words write, a tuple of pairs of a sign and a term; or None."""
    if len(words) % 2 == 0 or len(words) > 2 * MOST_TERMS - 1:
        return None
    signed = ["+", *words]
    terms = []
    used = {}
    for at in range(0, len(signed), 2):
        term = term_in(signed[at + 1], names)
        if signed[at] not in ("+", "-") or term is None or term in used:
            return None
        if isinstance(term, str):
            used[term] = True
        terms.append((1 if signed[at] == "+" else -1, term))
    return tuple(terms)


def names_in(terms):
    """The names that stand in a sum."""
    return [term for _, term in terms if isinstance(term, str)]


def comparison_in(words, names):
    """The part of a test that compares two unlike words, or None."""
    if len(words) != 3 or words[1] not in COMPARISONS or words[0] == words[2]:
        return None
    left = term_in(words[0], names)
    right = term_in(words[2], names)
    if left is None or right is None:
        return None
    return (words[1], left, right)


def parted(words):
    """Words parted where `and` stands."""
    parts = [[]]
    for word in words:
        if word == "and":
            parts.append([])
        else:
            parts[-1].append(word)
    return parts


def test_in(words, part_in, kind):
    """The test that some words write, a tuple of pairs: whether the part shall hold, and the part; or None."""
    parts = parted(words)
    if len(parts) > MOST_PARTS:
        return None
    test = []
    for part in parts:
        wanted = part[:1] != ["not"]
        read = part_in(part if wanted else part[1:], kind)
        if read is None:
            return None
        test.append((wanted, read))
    return tuple(test)
