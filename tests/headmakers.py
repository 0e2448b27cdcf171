"""Head codes for tests: right ones, slips in them, and codes of chance (always the same ones)."""

from tagblocks.errors import BlockError
from tagblocks.headcodes import HANDED, TOLD, HeadCode
from tagblocks.heads import Heads

HEAD_KINDS = ("make", "size", "used", "ahead", "use", "free", "meet", "part")
GOOD_TEXTS = {
    "make": ["word = size + used\na = ahead << 1\nword = word + a", "a = ahead << 1\nword = size + used + a",
             "word = size\nif used is 1\nword = word | 1\nend\nif ahead is 1\nword = word | 2\nend"],
    "size": ["size = word &~ 3", "a = word >> 2\nsize = a << 2", "a = word & 3\nsize = word - a"],
    "used": ["used = word & 1", "a = word & 1\nif a is 1\nused = 1\nend", "a = word >> 1\nb = a << 1\nused = word - b"],
    "ahead": ["a = word >> 1\nahead = a & 1", "a = word & 2\nif 0 < a\nahead = 1\nend"],
    "use": ["word = word | 1", "a = word & 1\nif a is 0\nword = word + 1\nend"],
    "free": ["word = word &~ 1", "a = word & 1\nword = word - a"],
    "meet": ["word = word | 2"],
    "part": ["word = word &~ 2"],
}


def heads_of(rules, **codes):
    """Right heads for units from 4 on, with some codes in the place of right ones."""
    good = {kind: HeadCode(kind, texts[0]) for kind, texts in GOOD_TEXTS.items()}
    return Heads(rules, [codes.get(kind, good[kind]) for kind in HEAD_KINDS])


class Chance:
    """Codes of chance in words of a number of bits."""

    def __init__(self, random, wide):
        self.random = random
        self.wide = wide

    def names(self, kind):
        return ["a", "b", "c", *HANDED[kind], TOLD[kind]]

    def number(self):
        return str(self.random.choice([0, 1, 2, 3, 4, 7, 8, 15, 16, self.random.randrange(1 << self.wide)]))

    def sum(self, kind):
        terms = []
        for _ in range(self.random.choice([1, 1, 1, 2, 2, 3, 4])):
            name = self.random.choice(self.names(kind))
            terms.append(name if name not in terms and self.random.random() < 0.75 else self.number())
        return terms[0] + "".join([self.random.choice([" + ", " + ", " - "]) + term for term in terms[1:]])

    def line(self, kind):
        line = f"{self.random.choice(['a', 'b', 'c', TOLD[kind], TOLD[kind]])} = {self.sum(kind)}"
        sort = self.random.random()
        if sort < 0.35:
            return f"{line} {self.random.choice(['<<', '>>'])} {self.random.randint(1, min(63, self.wide))}"
        if sort < 0.7:
            high = self.random.randint(1, self.wide)
            run = (1 << high) - (1 << self.random.randrange(high))
            return f"{line} {self.random.choice(['&', '&~', '|', '^'])} {run}"
        return line

    def test(self, kind):
        parts = []
        for _ in range(self.random.choice([1, 1, 1, 2])):
            words = [self.random.choice(self.names(kind)), self.random.choice([*self.names(kind), self.number()])]
            if words[0] == words[1]:
                words[1] = "99"
            self.random.shuffle(words)
            negation = "not " if self.random.random() < 0.3 else ""
            parts.append(f"{negation}{words[0]} {self.random.choice(['<', '<=', 'is'])} {words[1]}")
        return " and ".join(parts)

    def code(self, kind, most):
        while True:
            lines, nest = [], []
            for _ in range(self.random.randint(1, most)):
                sort = self.random.random()
                if sort < 0.2:
                    lines.append("if " + self.test(kind))
                    nest.append("if")
                elif sort < 0.3 and nest:
                    is_else = nest.pop() == "if" and self.random.random() < 0.5
                    lines.append("else" if is_else else "end")
                    nest += ["else"] if is_else else []
                elif sort < 0.34:
                    lines.append("no" if kind == "round" and self.random.random() < 0.5 else "quit")
                else:
                    lines.append(self.line(kind))
            made = self.made(kind, lines + ["end"] * len(nest))
            if made is not None:
                return made

    def made(self, kind, lines):
        try:
            return HeadCode(kind, "\n".join(lines))
        except BlockError:
            return None

    def slip(self, kind, text):
        """A code with one line or number changed."""
        while True:
            lines = text.split("\n")
            at = self.random.randrange(len(lines))
            sort = self.random.random()
            if sort < 0.3 and "=" in lines[at]:
                lines[at] = self.line(kind)
            elif sort < 0.5:
                lines.insert(at, self.line(kind))
            elif sort < 0.6:
                lines.insert(at, "if " + self.test(kind))
                lines.insert(self.random.randint(at + 1, len(lines)), "end")
            else:
                words = lines[at].split(" ")
                numbers = [k for k, word in enumerate(words) if word.isdigit()]
                if numbers:
                    words[self.random.choice(numbers)] = self.number()
                lines[at] = " ".join(words)
            made = self.made(kind, lines)
            if made is not None:
                return made
