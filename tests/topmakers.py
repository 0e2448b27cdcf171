"""Top codes that are right, codes with slips, and a second way to play them, which reads their lines one by one."""

from tagblocks.errors import BlockError
from tagblocks.topcodes import TopCode

PROMISES = {"grow": ("inside", "true", "enough", "spare", "full"), "trim": ("inside", "true", "rest", "keep", "idle")}
WIDEN = ("a = need - top\nif size is 0\na = a + fence\nend\na = a up page\nask a\nif not granted\nno\nend\nif size is a\n"
         "top = a - fence\nquit\nend\ntop = top + a")
# With a stock that is asked for first.
STOCK = ("a = need - top\nif size is 0\na = a + fence\nend\nb = a + {waste}\nb = b up page\nc = size\nask b\nif not granted\n"
         "a = a up page\nask a\nif not granted\nno\nend\nend\nb = size - c\ntop = top + b\nif c is 0\ntop = top - fence\nend")
NEVER = ""
LAZY = "if top < {idle}\nquit\nend\na = top - {keep}\na = a down page\ngive a\ntop = top - a"


def good_texts(rules):
    """Texts that are right: two for growing, one for trimming (which keeps idle only if there is an idle)."""
    keep = max(rules.keep, rules.least)
    idle = rules.idle if rules.idle is not None else 10 ** 29
    lines = LAZY.format(idle=idle, keep=keep)
    return [WIDEN, STOCK.format(waste=rules.waste), lines]


class TopAgain:
    """A play of a top code on a case."""

    def __init__(self, code, case):
        self.rules, self.case, self.kind = code.rules, case, code.kind
        self.worths = {"size": case[0], "top": case[1], "need": case[2] if len(case) > 2 else None, "unit": self.rules.unit,
                       "least": self.rules.least, "page": self.rules.page, "fence": self.rules.fence, "a": 0, "b": 0, "c": 0}
        self.asks, self.gives, self.granted, self.ended, self.played = [], [], False, "done", set()
        lines = code.text.split("\n") if code.text else []
        at = 0
        while at < len(lines) and self.ended == "done":
            words = lines[at].split(" ")
            if words[0] not in ("else", "end"):
                self.played.add(at + 1)
            if words[0] == "quit":
                break
            if words[0] == "no":
                self.ended = "refused"
            elif words[0] == "if":
                parts = " ".join(words[1:]).split(" and ")
                if not all(self.holds(part.split(" ")) for part in parts):
                    at = self.skip(lines, at)
            elif words[0] == "else":
                at = self.skip(lines, at)
            elif words[0] != "end" and not self.line(words):
                self.ended = "beyond"
            at += 1

    def skip(self, lines, at):
        depth = 0
        while True:
            at += 1
            word = lines[at].split(" ")[0]
            if depth == 0 and (word == "end" or word == "else"):
                return at
            depth += 1 if word == "if" else -1 if word == "end" else 0

    def worth(self, word):
        return int(word) if word.isdigit() else self.worths[word]

    def holds(self, words):
        if words[0] == "not":
            return not self.holds(words[1:])
        if words == ["granted"]:
            return self.granted
        one, other = self.worth(words[0]), self.worth(words[2])
        return {"<": one < other, "<=": one <= other, "is": one == other}[words[1]]

    def sum(self, words):
        return sum(self.worth(word) * (-1 if sign == "-" else 1) for sign, word in zip(["+"] + words[1::2], words[::2]))

    def line(self, words):
        if words[0] in ("ask", "give"):
            amount = self.sum(words[1:])
            if amount < 0 or amount % self.rules.page:
                return False
            if words[0] == "give":
                if sum(self.gives) + amount > self.case[1]:
                    return False
                self.gives.append(amount)
                self.worths["size"] -= amount
                return True
            self.granted = self.rules.limit is None or self.worths["size"] + amount <= self.rules.limit
            self.asks.append((amount, self.granted))
            self.worths["size"] += amount if self.granted else 0
            return True
        sign = [one for one in ("up", "down", "//", "*") if one in words]
        amount = self.sum(words[2:-2] if sign else words[2:])
        if sign:
            by = self.worth(words[-1])
            amount = {"up": -(-amount // by) * by, "down": amount // by * by, "//": amount // by, "*": amount * by}[sign[0]]
        if words[0] == "top" and amount < 0:
            return False
        self.worths[words[0]] = amount
        return True

    def broken(self):
        rules, size, top = self.rules, self.worths["size"], self.worths["top"]
        if self.ended == "beyond":
            return ("inside",)
        base = self.case[0] - rules.fence - self.case[1] if self.case[0] else 0
        found = []
        if top != (size - rules.fence - base if size else 0):
            found.append("true")
        if self.kind == "grow":
            missing = self.case[2] - self.case[1] + (rules.fence if self.case[0] == 0 else 0)
            if self.ended == "done":
                if top < self.case[2]:
                    found.append("enough")
                if size - self.case[0] > -(-(missing + rules.waste) // rules.page) * rules.page:
                    found.append("spare")
            else:
                room = rules.limit is None or self.case[0] + -(-missing // rules.page) * rules.page <= rules.limit
                if room or size != self.case[0] or top != self.case[1]:
                    found.append("full")
            return tuple(found)
        if 0 < top < rules.least:
            found.append("rest")
        if size < self.case[0] and top < rules.keep:
            found.append("keep")
        if rules.idle is not None and top >= rules.idle:
            found.append("idle")
        return tuple(found)


def states_of(rules, most):
    """All states with up to so many pages."""
    for size in range(0, most * rules.page + 1, rules.page):
        if rules.limit is None or size <= rules.limit:
            yield size, 0
            for top in range(rules.least, size - rules.fence + 1):
                if size and top % rules.unit == 0:
                    yield size, top


def cases_of(code, most, need):
    """All cases with up to so many pages and up to a need."""
    rules = code.rules
    for size, top in states_of(rules, most):
        if code.kind == "trim":
            yield (size, top)
        else:
            for one in range(rules.least, need + 1):
                if one % rules.unit == 0 and one > top:
                    yield (size, top, one)


class TopChance:
    """Top codes with slips, by chance."""

    def __init__(self, chance):
        self.random = chance

    def terms(self, kind):
        names = ["size", "top", "least", "page", "fence", "unit", "a", "a", "b", "c"] + ["need"] * (2 * (kind == "grow"))
        one, two = self.random.choice(names), self.random.choice(names)
        if one == two:
            return one
        return self.random.choice([one, f"{one} - {two}", f"{one} + {two}", f"{one} - {self.random.randint(1, 5)}",
                                   f"{one} + {self.random.randint(1, 5)}", str(self.random.randint(0, 9))])

    def test(self, kind):
        one, two = self.terms(kind).split(" ")[0], self.terms(kind).split(" ")[0]
        two = two if two != one else "7"
        part = f"{one} {self.random.choice(['<', '<=', 'is'])} {two}"
        return self.random.choice([part, "not " + part] + ["granted", "not granted"] * (kind == "grow"))

    def line(self, kind):
        terms, told = self.terms(kind), self.random.choice("aabc")
        by = self.random.choice(["page", "unit", "2", "page"])
        lines = [f"{told} = {terms}", f"{told} = {terms} up {by}", f"{told} = {terms} down {by}", f"{told} = {terms} // {by}",
                 f"top = {terms}", f"{told} = {terms} * {by}", "quit"]
        return self.random.choice(lines + ([f"ask {terms}", "no"] if kind == "grow" else [f"give {terms}"]))

    def code(self, kind, rules, text):
        while True:
            lines = text.split("\n")
            for _ in range(self.random.choice([1, 1, 2])):
                at = self.random.randrange(len(lines))
                sort = self.random.randrange(4)
                word = lines[at].split(" ")[0]
                if word == "if":
                    lines[at] = "if " + self.test(kind)
                elif word in ("else", "end") or sort == 0:
                    lines.insert(at, self.line(kind))
                elif sort == 1:
                    lines.pop(at)
                elif sort == 2 and word in ("ask", "give"):
                    lines[at] = f"{word} {self.terms(kind)}"
                elif sort == 2 and " up " in lines[at]:
                    lines[at] = lines[at].replace(" up ", self.random.choice([" down ", " + "]))
                else:
                    lines[at] = self.line(kind)
            try:
                return TopCode(kind, rules, "\n".join(lines))
            except BlockError:
                continue
