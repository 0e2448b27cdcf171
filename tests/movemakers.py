"""Move codes for tests: right ones, codes with slips, and a second way to play them that logs what is read and written."""

from replaying import Lines
from tagblocks.errors import BlockError
from tagblocks.movecodes import MoveCode
from tagblocks.moverules import MoveRules

UP = "while a < len\nw1 = from a\nto a = w1\na = a + 1\nend"
DOWN = "a = len\nwhile 0 < a\na = a - 1\nw1 = from a\nto a = w1\nend"
BOTH = f"if gap < 0\n{UP}\nelse\nif 0 < gap\n{DOWN}\nend\nend"
PAIRS = ("b = 2\nwhile b <= len\nw1 = from a\nw2 = from a + 1\nto a = w1\nto a + 1 = w2\na = a + 2\nb = b + 2\nend\n"
         "if a < len\nw1 = from a\nto a = w1\nend")
PAIRS_DOWN = ("a = len\nwhile 2 <= a\na = a - 2\nw2 = from a + 1\nto a + 1 = w2\nw1 = from a\nto a = w1\nend\n"
              "if 0 < a\nw1 = from 0\nto 0 = w1\nend")
FOURS = "b = 4\nwhile b <= len\n" + "\n".join(f"w{k} = from a + {k}\nto a + {k} = w{k}" if k else "w8 = from a\nto a = w8"
                                              for k in range(4)) + "\na = a + 4\nb = b + 4\nend"
FOURS_UP = FOURS + "\n" + UP
HALF = "d = len // 2\nwhile a < d\nw1 = from a\nto a = w1\na = a + 1\nend\nwhile not d is len\nw2 = from d\nto d = w2\nd = d + 1\nend"
ENDS = "b = len - 1\nwhile a <= b\nw1 = from a\nw2 = from b\nto a = w1\nto b = w2\na = a + 1\nb = b - 1\nend"
SINGLES = "if len is 0\nquit\nend\nw1 = from 0\nto 0 = w1\nif len is 1\nquit\nend\nw2 = from len - 1\nto len - 1 = w2"
BACK = "a = len - 1\nwhile not a < 0\nw1 = from a\nto a = w1\na = a - 1\nend"
TEXTS = [(UP, "down"), (DOWN, "up"), (BOTH, "any"), (PAIRS, "down"), (PAIRS_DOWN, "up"), (FOURS_UP, "down"), (HALF, "down"),
         (ENDS, "apart"), (SINGLES, "apart"), (BACK, "up"), (FOURS_UP, "apart"), (PAIRS, "any")]


class Beyond(Exception):
    """A play that is beyond."""


class Replay(Lines):
    """A play: its log has ("read", place) and ("write", gap and place, place that the word was read at)."""

    def __init__(self, code, many, gap):
        super().__init__(code.text, {"len": many, "gap": gap, "a": 0, "b": 0, "c": 0, "d": 0})
        self.held, self.log = {}, []
        self.ended = "done"
        try:
            self.play(0, len(self.lines))
        except Beyond:
            self.ended = "beyond"

    def place(self, words):
        place = self.sum(words)
        if not 0 <= place < self.worths["len"]:
            raise Beyond
        return place

    def play(self, at, end):
        """Plays lines; whether it met quit."""
        while at < end:
            words = self.lines[at].split(" ")
            if words[0] == "quit":
                return True
            if words[0] == "if":
                first, behind, last = self.side_of(at)
                if self.play(first, behind):
                    return True
                at = last
            elif words[0] == "while":
                last, rounds = self.block_end(at), 0
                before = (dict(self.worths), dict(self.held), list(self.log))
                fault = None
                while self.holds(words[1:]):
                    rounds += 1
                    if rounds > 400:
                        self.worths, self.held, self.log = before
                        raise Beyond
                    try:
                        self.play(at + 1, last)
                    except Beyond:
                        fault = True
                        self.steps(at + 1, last)
                if fault:
                    raise Beyond
                self.held = {}
                at = last
            elif words[0] == "to":
                if words[-1] not in self.held:
                    raise Beyond
                self.log.append(("write", self.place(words[1:-2]), self.held[words[-1]]))
            elif words[0][0] == "w":
                self.held[words[0]] = self.place(words[3:])
                self.log.append(("read", self.held[words[0]]))
            elif words[-2] == "//":
                self.worths[words[0]] = self.sum(words[2:-2]) // int(words[-1])
            else:
                self.worths[words[0]] = self.sum(words[2:])
            at += 1
        return False

    def steps(self, at, end):
        """Only to see whether a while ends in which a line was beyond: the steps alone."""
        for line in self.lines[at:end]:
            words = line.split(" ")
            if words[0] in "abcd":
                self.worths[words[0]] = self.sum(words[2:])

    def broken(self):
        """The promises that the play breaks."""
        many, gap = self.worths["len"], self.worths["gap"]
        if self.ended == "beyond":
            return ["inside"]
        found, foreign, last = [], set(), {}
        writes = [entry for entry in self.log if entry[0] == "write"]
        for entry in self.log:
            if entry[0] == "read" and entry[1] in foreign and "fresh" not in found:
                found.append("fresh")
            if entry[0] == "write":
                last[entry[1]] = entry[2]
                if entry[2] != gap + entry[1]:
                    foreign.add(gap + entry[1])
        if any(last.get(place, place if gap == 0 else None) != place for place in range(many)):
            found.append("whole")
        if len(last) < len(writes):
            found.append("once")
        return found + (["still"] if gap == 0 and writes else [])


class MoveChance:
    """Codes of chance, made by slips in right ones."""

    def __init__(self, random, steps="1248", rules=((1, 0), (1, 0), (2, 0), (2, 1), (4, 1), (16, 8), (3, 2))):
        self.random = random
        self.steps = steps
        self.rules = rules

    def sum(self):
        terms = []
        for _ in range(self.random.choice([1, 1, 2, 2, 3])):
            term = self.random.choice(["a", "b", "len", "gap", "d", str(self.random.randrange(5))])
            if term not in terms or term.isdigit():
                terms.append(term)
        return terms[0] + "".join(self.random.choice([" + ", " - "]) + term for term in terms[1:])

    def part(self):
        words = [self.random.choice(["a", "b", "len", "gap", "d"]), self.random.choice(["a", "len", "b", str(self.random.randrange(6))])]
        self.random.shuffle(words)
        return ("not " if self.random.random() < 0.25 else "") + f"{words[0]} {self.random.choice(['<', '<=', 'is'])} {words[1]}"

    def line(self):
        word = f"w{self.random.randint(1, 3)}"
        return self.random.choice([
            f"{word} = from {self.sum()}", f"to {self.sum()} = {word}", f"a = a {self.random.choice('+-')} {self.random.choice(self.steps)}",
            f"b = b {self.random.choice('+-')} {self.random.choice(self.steps)}", f"{self.random.choice('abd')} = {self.sum()}",
            f"{self.random.choice('abd')} = {self.sum()} // {self.random.choice(self.steps[1:])}", "quit"])

    def changed(self, lines):
        at, sort = self.random.randrange(len(lines)), self.random.random()
        words = lines[at].split(" ")
        if sort < 0.2 and words[0] not in ("while", "if", "else", "end"):
            lines[at] = self.line()
        elif sort < 0.4:
            lines.insert(at, self.line())
        elif sort < 0.5 and words[0] not in ("while", "if", "else", "end"):
            del lines[at]
        elif sort < 0.6:
            lines.insert(at, "if " + self.part())
            lines.insert(self.random.randint(at + 1, len(lines)), "end")
        elif sort < 0.75 and words[0] == "while":
            lines[at] = "while " + self.part()
        else:
            places = [k for k, word in enumerate(words) if word.isdigit() or word in ("a", "b", "len", "<", "<=")]
            if places:
                k = self.random.choice(places)
                words[k] = (self.random.choice(["0", *self.steps[:3], "len"]) if words[k].isdigit() else
                            {"<": "<=", "<=": "<"}.get(words[k]) or self.random.choice(["a", "b", "len", "1", "gap"]))
                lines[at] = " ".join(words)

    def code(self, most):
        while True:
            text, kind = self.random.choice(TEXTS)
            lines = text.split("\n")
            for _ in range(self.random.choice(range(most + 1))):
                self.changed(lines)
            rules = MoveRules(*self.random.choice(self.rules))
            if self.random.random() < 0.3:
                kind = self.random.choice(["any", "down", "up", "apart"])
            try:
                return MoveCode(kind, rules, "\n".join(lines))
            except BlockError:
                continue
