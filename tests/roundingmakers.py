"""Roundings for tests: as people write them, with slips, and with tests in one another; and what they break, plainly."""

from headmakers import Chance
from tagblocks.errors import BlockError
from tagblocks.headcodes import HeadCode
from tagblocks.headrules import HeadRules
from tagblocks.heads import Rounding

PROMISES = ("even", "enough", "tight", "full")
WRITTEN = [
    "a = n + {up}\nif a < n\nno\nend\nsize = a &~ {low}\nif size < {least}\nsize = {least}\nend",
    "a = n + {up}\nif not n <= a\nno\nelse\nsize = a &~ {low}\nend\nif size < {least}\nsize = {least}\nend",
    "a = n + {up}\nif a < n\nno\nend\nb = a & {low}\nsize = a - b\nif size < {least}\nsize = {least}\nend",
    "a = n + {up}\nif a < n\nno\nend\nb = a >> {shift}\nsize = b << {shift}\nif size < {least}\nsize = {least}\nend",
    "a = n + {over}\nif a < n\nno\nend\nc = a & {low}\nsize = a - c\nif not c is 0\nsize = size + {unit}\nif size is 0\nno\n"
    "end\nend\nif size < {least}\nsize = {least}\nend",
    "if {last} < n\nno\nend\na = n + {up}\nsize = a &~ {low}\nif size < {least}\nsize = {least}\nend"]
# Without bits to be dropped there is nothing that they tell.
PLAIN = [(" &~ {low}", ""), ("b = a & {low}", "b = 0"), ("b = a >> {shift}\nsize = b << {shift}", "size = a"),
         ("c = a & {low}", "c = 0")]


def chance_rules(random, wides):
    """Rules for words of one of some numbers of bits."""
    wide = random.choice(wides)
    unit = 1 << random.randint(0, min(12, wide - 4))
    least = unit * random.choice([1, 1, 2, 3, 5, 10])
    least = least if least < 1 << wide else unit
    over = random.choice([0, 1, 2, 4, 7, 9, 26, 31, unit // 2, unit - 1, unit, random.randint(0, 4096)])
    return HeadRules(unit, least, min(over, (1 << wide) - 1), wide, wide)


def written(random, rules):
    """The text of a rounding that is right, or nearly so."""
    text = random.choice(WRITTEN)
    if rules.unit == 1:
        for one, other in PLAIN:
            text = text.replace(one, other)
    return text.format(up=rules.over + rules.unit - 1, low=rules.unit - 1, least=rules.least, over=rules.over, unit=rules.unit,
                       shift=rules.unit.bit_length() - 1, last=max(0, rules.last_size() - rules.over))


class Nested(Chance):
    """Texts with up to four ifs, whose tests always hold, never do, or do for some numbers alone."""

    def __init__(self, random, rules):
        super().__init__(random, rules.wide)
        self.rules = rules

    def near(self):
        words = 1 << self.wide
        rules, random = self.rules, self.random
        return str(random.choice([0, 1, rules.over, rules.unit, rules.least, rules.over + rules.unit - 1, words - rules.over,
                                  words - 1, words, words // 2, 1 << random.randrange(self.wide), random.randrange(words)]))

    def part(self):
        words = [self.random.choice(["n", "a", "size", "b"]), self.random.choice(["n", "a", self.near(), self.near()])]
        if words[0] == words[1]:
            words[1] = self.near()
        self.random.shuffle(words)
        negation = "not " if self.random.random() < 0.3 else ""
        return f"{negation}{words[0]} {self.random.choice(['<', '<=', '<', 'is'])} {words[1]}"

    def row(self):
        sort = self.random.random()
        told = self.random.choice(["a", "b", "size", "size"])
        name = self.random.choice(["n", "a", "size", "b"])
        if sort < 0.5:
            return f"{told} = {name} {self.random.choice(['+', '-'])} {self.near()}"
        if sort < 0.8:
            ones = max(1, self.random.choice([self.rules.unit - 1, self.rules.unit, 15]))
            return f"{told} = {name} {self.random.choice(['&', '&~', '&~', '|', '^'])} {ones}"
        return f"{told} = {self.near()}" if sort < 0.9 else f"{told} = {name} + c"

    def text(self):
        lines, nest, ifs = [f"a = n + {self.rules.over + self.rules.unit - 1}"], [], 0
        for _ in range(self.random.randint(4, 14)):
            sort = self.random.random()
            if sort < 0.3 and ifs < 4:
                lines.append("if " + " and ".join([self.part() for _ in range(self.random.choice([1, 1, 1, 2]))]))
                nest.append(True)
                ifs += 1
            elif sort < 0.45 and nest:
                may_else = nest.pop()
                if may_else and self.random.random() < 0.35:
                    nest.append(False)
                    lines.append("else")
                else:
                    lines.append("end")
            else:
                lines.append(self.random.choice(["no", "no", "quit"]) if sort < 0.55 else self.row())
        return "\n".join(lines + ["end"] * len(nest))


def rounding_of(random, sort, wides):
    """A rounding of chance: "written", with a "slip", or "nested"."""
    while True:
        rules = chance_rules(random, wides)
        try:
            if sort == "nested":
                code = HeadCode("round", Nested(random, rules).text())
            elif sort == "slip":
                code = Chance(random, rules.wide).slip("round", written(random, rules))
            else:
                code = HeadCode("round", written(random, rules))
        except BlockError:
            continue
        return Rounding(rules, code)


def broken_at(rounding, n):
    """The promises that are broken at a length, told by the words of the document."""
    rules, told, wanted = rounding.rules, rounding.size_for(n), n + rounding.rules.over
    if told is None:
        return ("full",) if wanted <= rules.last_size() else ()
    found = () if rules.in_use(told) else ("even",)
    if told < wanted:
        found = found + ("enough",)
    elif rules.in_use(told) and told - rules.unit >= max(rules.least, wanted):
        found = found + ("tight",)
    return found
