"""Block codes for tests: right ones of all four kinds, slips in them, and all cases of small sizes."""

import itertools

from tagblocks.blockcodes import BlockCode
from tagblocks.errors import BlockError

OUT = "q = next X\nr = prev X\nnext r = q\nprev q = r\n"
HANG = "q = next bin\nnext s = q\nprev s = bin\nprev q = s\nnext bin = s"
CUTTING = "head s = N free used\nfoot s = N\n" + HANG
TEXTS = {
    "free": "a = size own\np = own + a\nif not used p\n" + OUT.replace("X", "p")
            + "b = size p\na = a + b\nend\ns = own\nif not ahead used own\nb = size ahead own\ns = own - b\n"
            + OUT.replace("X", "s") + "a = a + b\nend\nhead s = a free used\nfoot s = a\np = s + a\nahead free p\n" + HANG,
    "take": "a = size own\nif a < want\nno\nend\n" + OUT.replace("X", "own")
            + "b = a - want\nif b < least\nused own\np = own + a\nahead used p\nelse\nhead own = want used used\n"
            + "s = own + want\n" + CUTTING.replace("N", "b") + "\nend",
    "grow": "a = size own\np = own + a\nif used p\nno\nend\nb = size p\nb = a + b\nif b < want\nno\nend\n"
            + OUT.replace("X", "p") + "c = b - want\ns = own + b\nif c < least\nsize own = b\nahead used s\nelse\n"
            + "size own = want\ns = own + want\n" + CUTTING.replace("N", "c") + "\nend",
    "cut": "a = size own\nb = a - want\np = own + a\nif used p\nif b < least\nquit\nend\nahead free p\nelse\nif b is 0\n"
           + "quit\nend\n" + OUT.replace("X", "p") + "a = size p\nb = a + b\nend\nsize own = want\ns = own + want\n"
           + CUTTING.replace("N", "b"),
}
WORDS = [["a", "b", "c", "want", "unit", "least", "0", "1", "2", "3", "5", "12"], ["own", "p", "q", "r", "s", "bin"],
         ["<", "<=", "is"], ["used", "free"], ["next", "prev"], ["+", "-"], ["head", "foot", "size"]]


def slip(random, kind, rules):
    """A code in which a few lines are changed, left out, doubled or in another order."""
    while True:
        lines = TEXTS[kind].split("\n")
        for _ in range(random.choice([1, 1, 1, 2, 3])):
            at, other, sort = random.randrange(len(lines)), random.randrange(len(lines)), random.random()
            if sort < 0.25:
                del lines[at]
            elif sort < 0.35:
                lines.insert(other, lines[at])
            elif sort < 0.45:
                lines[at], lines[other] = lines[other], lines[at]
            else:
                words = lines[at].split(" ")
                one = random.randrange(len(words))
                for group in WORDS:
                    if words[one] in group:
                        words[one] = random.choice(group)
                lines[at] = " ".join(words)
        try:
            code = BlockCode(kind, rules, "\n".join(lines))
        except BlockError:
            continue
        if code.text != TEXTS[kind]:
            return code


def rows_for(sizes, own, kind, left, right, behinds):
    """Rows around own: left and right other free blocks, with all sizes of the blocks that own's plays can meet."""
    least = sizes[0]
    head = [(least, False), (least, True)] * left
    for ahead in ([None, *sizes] if kind != "take" else [None]):
        for behind in ([None, *sizes] if kind != "take" else [None]):
            for end in [None, *behinds]:
                row = head + ([(ahead, False)] if ahead else [])
                at = len(row)
                row.append((own, kind != "take"))
                row += [(behind, False)] if behind else []
                row += [(end, True)] if end else []
                if right and not end:
                    continue
                tail = [(least, False), (least, True)] * right
                yield tuple(row + tail[:-1] if right else row), at


def cases_of(kind, rules, own, sizes, wants, behinds, most_others):
    """All block cases of these sizes with own of a size, and with up to so many other free blocks."""
    for left in range(most_others + 1):
        for right in range(most_others + 1 - left):
            for row, at in rows_for(sizes, own, kind, left, right, behinds):
                free = [number for number, (_, is_used) in enumerate(row) if not is_used]
                for ring in itertools.permutations(free):
                    for want in wants:
                        if kind == "free" and want is not None:
                            continue
                        if kind != "free" and want is None:
                            continue
                        if (kind == "grow" and want <= own) or (kind == "cut" and want > own):
                            continue
                        yield row, ring, at, want
