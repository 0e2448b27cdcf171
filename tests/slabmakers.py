"""Slab codes for tests: right ones, codes with slips, and a second way to play them on a page."""

from replaying import Lines
from tagblocks.errors import BlockError
from tagblocks.slabcodes import SlabCode

LAYS = ["a = size - head\na = a * wide\nb = each\nc = 1\nb = b * wide\nmany = 0\nquit",
        "a = size - head\nmany = a // each\na = many + wide - 1\nmaps = a // wide\nb = many * each\nb = b + maps + head\n"
        "if size < b\nmany = many - 1\na = many + wide - 1\nmaps = a // wide\nend"]
TAKE = ("if used is many\nno\nend\nfind\na = word * wide\nnumber = a + bit\na = number * each\nat = base + a\nset\nused = used + 1\n"
        "if used is many\nunlist\nend")
TAKES = [TAKE, TAKE.replace("set\nused = used + 1\nif used is many\nunlist\nend", "set\nb = many - used\nif b is 1\nunlist\nend\nused = used + 1"),
         "if many <= used\nno\nend\nfind\na = word * wide\na = a + bit\nnumber = a\nat = a * each\nat = at + base\nset\nused = used + 1\n"
         "if used is many\nunlist\nend"]
BACK = ("a = at - base\nnumber = a // each\nword = number // wide\nbit = number mod wide\nclear\nif used is many\nlist\nend\nused = used - 1\n"
        "if used is 0\nunlist\ndrop\nend")
CAREFUL = ("if at < base\nno\nend\na = at - base\nb = a mod each\nnumber = a // each\nword = number // wide\nbit = number mod wide\n"
           "if b is 0 and number < many and is set\nclear\nif used is many\nlist\nend\nused = used - 1\nif used is 0\nunlist\ndrop\nend\n"
           "else\nno\nend")
BACKS = [BACK, CAREFUL]
TEXTS = {"lay": LAYS, "take": TAKES, "back": BACKS}


def exact_lay(rules):
    """A right lay code, whose numbers are those of the rules."""
    return SlabCode("lay", f"a = size - head\na = a * wide\nmany = a // {rules.each * rules.wide + 1}\na = many + wide - 1\nmaps = a // wide")


class Beyond(Exception):
    """A play that is beyond."""


class Replay(Lines):
    """A play of a slab code, on a page with some bits set and so many map words."""

    def __init__(self, rules, code, handed, bits=(), maps=0):
        self.rules = rules
        worths = {"head": rules.head, "each": rules.each, "wide": rules.wide, "a": 0, "b": 0, "c": 0, "word": 0, "bit": 0,
                       "number": 0, "at": 0, "maps": 0, "many": 0, **handed}
        super().__init__(code.text, worths)
        self.bits, self.maps = set(bits), maps
        self.is_listed, self.is_dropped = len(self.bits) < self.worths["many"], False
        self.found, self.number, self.is_clean = None, None, True
        try:
            told = self.play(0, len(self.lines))
            self.ended = {"no": "refused"}.get(told, "done")
        except Beyond:
            self.ended = "beyond"

    def need(self, held):
        if not held:
            raise Beyond

    def bit(self):
        word, bit = self.worths["word"], self.worths["bit"]
        self.need(word < self.maps and bit < self.rules.wide)
        return word * self.rules.wide + bit

    def holds(self, words):
        return self.bit() in self.bits if words == ["is", "set"] else super().holds(words)

    def play(self, at, end):
        while at < end:
            words = self.lines[at].split(" ")
            if words[0] in ("quit", "no"):
                return words[0]
            if words[0] == "if":
                first, behind, last = self.side_of(at)
                told = self.play(first, behind)
                if told:
                    return told
                at = last
            elif len(words) == 1:
                self.flag(words[0])
            else:
                self.set(words)
            at += 1
        return None

    def set(self, words):
        signs = [sign for sign in ("*", "//", "mod", "<<", ">>", "&") if sign in words]
        worth = self.sum(words[2:words.index(signs[0])] if signs else words[2:])
        top = (1 << self.rules.wide) - 1
        self.need(0 <= worth <= top)
        if signs:
            by = self.sum(words[-1:])
            worth = {"*": lambda: worth * by, "//": lambda: worth // by, "mod": lambda: worth % by, "<<": lambda: worth << by,
                     ">>": lambda: worth >> by, "&": lambda: worth & by}[signs[0]]()
        self.need(worth <= top)
        self.worths[words[0]] = worth
        if words[0] == "number":
            self.number = (worth, self.found)
        self.is_clean = self.is_clean and words[0] != "used"

    def flag(self, word):
        if word == "find":
            free = [bit for bit in range(self.maps * self.rules.wide) if bit not in self.bits]
            self.need(free)
            self.found = free[0]
            self.worths["word"], self.worths["bit"] = free[0] // self.rules.wide, free[0] % self.rules.wide
            return
        if word == "set":
            self.need(self.found is not None and self.bit() not in self.bits)
            self.bits.add(self.bit())
        elif word == "clear":
            self.need(self.bit() in self.bits)
            self.bits.remove(self.bit())
        elif word == "drop":
            self.need(not self.is_listed and not self.is_dropped)
            self.is_dropped = True
        else:
            self.need(self.is_listed != (word == "list"))
            self.is_listed = word == "list"
        self.is_clean = False


def lay_breaks(rules, code, size):
    """The promises that a play of lay breaks."""
    play = Replay(rules, code, {"size": size})
    if play.ended == "beyond":
        return ["inside"]
    many, maps = play.worths["many"], play.worths["maps"]
    if many < 1 or maps != -(-many // rules.wide) or rules.head + maps + rules.each * many > size:
        return ["fits"]
    return ["most"] if rules.head + -(-(many + 1) // rules.wide) + rules.each * (many + 1) <= size else []


def page_play(rules, code, many, lent, at):
    maps = -(-many // rules.wide)
    return Replay(rules, code, {"many": many, "base": rules.head + maps, "used": len(lent), "at": at}, lent, maps)


def counts_wrong(play, owed, is_listed, is_dropped):
    return (play.worths["used"], play.is_listed, play.is_dropped) != (owed, is_listed, is_dropped)


def take_breaks(rules, code, many, lent):
    """The promises that a play of take breaks."""
    play = page_play(rules, code, many, lent, 0)
    if play.ended == "beyond":
        return ["inside"]
    if len(lent) == many:
        return [] if play.ended == "refused" and play.is_clean else ["full"]
    if play.ended == "refused":
        return ["full"]
    place = min(bit for bit in range(many) if bit not in lent)
    used = len(lent) + 1
    broken = ["counts"] if counts_wrong(play, used, used < many, False) else []
    if play.number != (place, place):
        return broken + ["number"]
    owed = (set(lent) | {place}, rules.head + play.maps + rules.each * place)
    return broken + ([] if (play.bits, play.worths["at"]) == owed else ["own"])


def back_breaks(rules, code, many, lent, at):
    """The promises that a play of back breaks."""
    play = page_play(rules, code, many, lent, at)
    place, over = divmod(at - rules.head - play.maps, rules.each)
    is_place = over == 0 and 0 <= place < many
    if not is_place or place not in lent:
        is_fine = play.ended == "refused" and play.is_clean
        return [] if is_fine else ["twice" if is_place else "odd"]
    if play.ended != "done":
        return ["inside" if play.ended == "beyond" else "full"]
    used = len(lent) - 1
    broken = ["counts"] if counts_wrong(play, used, used > 0, used == 0) else []
    if play.number is None or play.number[0] != place:
        return broken + ["number"]
    return broken + ([] if play.bits == set(lent) - {place} else ["own"])


class SlabChance:
    """Slab codes of chance, made by slips in right ones."""

    def __init__(self, random, greatest=9):
        self.random = random
        self.greatest = greatest

    def names(self, kind):
        rest = ["size", "many", "maps"] if kind == "lay" else ["many", "base", "used", "word", "bit", "number", "at"]
        return ["head", "each", "wide", "a", "b", *rest, *rest]

    def sum(self, kind):
        terms = []
        for _ in range(self.random.choice([1, 1, 2, 2, 3])):
            term = self.random.choice(self.names(kind)) if self.random.random() < 0.75 else self.number()
            if term not in terms or term.isdigit():
                terms.append(term)
        return terms[0] + "".join(self.random.choice([" + ", " - "]) + term for term in terms[1:])

    def number(self):
        return str(self.random.choice([1, 2, 3, self.random.randrange(self.greatest)]))

    def sign(self):
        return self.random.choice([f"* {self.random.choice(['each', 'wide', '2', '3'])}",
                                   f"// {self.random.choice(['each', 'wide', '2', '3'])}",
                                   f"mod {self.random.choice(['each', 'wide', '2', '3'])}", "<< 1", ">> 1", "& 3"])

    def line(self, kind):
        told = {"lay": ["many", "maps"], "take": ["number", "at", "used"], "back": ["number", "word", "bit", "used"]}[kind]
        words = {"lay": ["quit"], "take": ["quit", "no", "find", "set", "list", "unlist", "drop"],
                 "back": ["quit", "no", "clear", "list", "unlist", "drop"]}[kind]
        if self.random.random() < 0.3:
            return self.random.choice(words)
        told = self.random.choice(["a", "b", *told])
        return f"{told} = {self.sum(kind)}" + (f" {self.sign()}" if told != "used" and self.random.random() < 0.5 else "")

    def part(self, kind):
        words = [self.random.choice(self.names(kind)), self.random.choice([*self.names(kind), self.number(), self.number()])]
        if words[0] == words[1]:
            words[1] = "7"
        part = f"{words[0]} {self.random.choice(['<', '<=', 'is'])} {words[1]}"
        if kind == "back" and self.random.random() < 0.4:
            part = "is set"
        return ("not " if self.random.random() < 0.25 else "") + part

    def changed(self, kind, lines):
        at, sort = self.random.randrange(len(lines)), self.random.random()
        words = lines[at].split(" ")
        if sort < 0.2 and words[0] not in ("if", "else", "end"):
            lines[at] = self.line(kind)
        elif sort < 0.4:
            lines.insert(at, self.line(kind))
        elif sort < 0.55 and words[0] not in ("if", "else", "end"):
            del lines[at]
        elif sort < 0.7:
            lines.insert(at, "if " + self.part(kind))
            lines.insert(self.random.randint(at + 1, len(lines)), "end")
        else:
            places = [k for k, word in enumerate(words) if k > 1 and (word.isdigit() or word in self.names(kind))]
            if places:
                k = self.random.choice(places)
                words[k] = self.number() if words[k].isdigit() else self.random.choice(self.names(kind))
                lines[at] = " ".join(words)

    def code(self, kind, most, texts=None):
        while True:
            lines = self.random.choice(texts or TEXTS[kind]).split("\n")
            for _ in range(self.random.choice(range(most + 1))):
                if lines:
                    self.changed(kind, lines)
            try:
                return SlabCode(kind, "\n".join(lines))
            except BlockError:
                continue
