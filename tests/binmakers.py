"""Codes of bins for tests: right ones, slips in them, codes of chance, and a second way to play map codes."""

from tagblocks.bincodes import BinCode, MapCode
from tagblocks.errors import BlockError

HANGS = ["bin = bits size", "bin = size // 4", "bin = size", "a = size // 3\nbin = a\nif last < bin\nbin = last\nend",
         "a = bits size\nb = a - 2\nc = size >> b\nb = b * 2\nbin = b + c - 4", "if size < 8\nbin = size // 2\nelse\nbin = 4\nend"]
ASKS = ["bin = bits len", "a = len - 1\na = bits a\nbin = a + 1", "a = len + 3\nbin = a // 4", "bin = len\nif last < len\nno\nend",
        "look\nbin = len // 4", "look\nbin = bits len", "a = len + 2\nbin = a // 3\nif last < bin\nno\nend"]
FIND = ("a = bin // {w}\nb = bin mod {w}\np = word a\np from b\nif p empty\nc = a + 1\nif c is {n}\nnone\nend\np = roof\n"
        "p from c\nif p empty\nnone\nend\na = first p\np = word a\nend\nb = first p\na = a * {w}\nb = b + a\ntell b")
MARK = "a = bin // {w}\nb = bin mod {w}\np = word a\np with b\nword a = p\np = roof\np with a\nroof = p"
CLEAR = "a = bin // {w}\nb = bin mod {w}\np = word a\np without b\nword a = p\nq = roof\nif p empty\nq without a\nend\nroof = q"


def good_maps(rules):
    """Right texts of the three kinds; find asks whether there is a next word only if the roof has no bit for it."""
    return [text.format(w=rules.wide, n=rules.wide if rules.words == rules.wide else rules.words)
            for text in (FIND, MARK, CLEAR)]


class BinChance:
    """Codes of chance."""

    def __init__(self, random):
        self.random = random

    def terms(self, names, signs):
        chosen = []
        for _ in range(self.random.choice([1, 1, 2, 3])):
            term = self.random.choice(names) if self.random.random() < 0.7 else str(self.random.randrange(7))
            if term not in chosen:
                chosen.append(term)
        return chosen[0] + "".join(f" {self.random.choice(signs) if term.isdigit() else '+'} {term}" for term in chosen[1:])

    def class_line(self, kind):
        names = ["a", "b", "c", "bin", "last", "size" if kind == "hang" else "len", "size" if kind == "hang" else "len"]
        told = self.random.choice(["a", "b", "bin", "bin"])
        sort, terms = self.random.random(), self.terms(names, "+-")
        if sort < 0.15:
            return f"{told} = bits {terms}"
        if sort < 0.3:
            return f"{told} = {terms} >> {self.random.choice('abc')}"
        if sort < 0.6:
            return f"{told} = {terms} {self.random.choice(['*', '//'])} {self.random.randint(2, 5)}"
        if sort < 0.7 and kind == "ask":
            return self.random.choice(["look", "no", "quit"])
        return f"{told} = {terms}"

    def test(self, names, parts):
        found = []
        for _ in range(self.random.choice([1, 1, 2])):
            words = [self.random.choice(names), str(self.random.randrange(9))]
            self.random.shuffle(words)
            part = f"{words[0]} {self.random.choice(['<', '<=', 'is'])} {words[1]}"
            if parts and self.random.random() < 0.6:
                part = self.random.choice(parts)
            found.append(("not " if self.random.random() < 0.3 else "") + part)
        return " and ".join(found)

    def with_slips(self, text, line_of, test_of, many):
        """A text with some lines changed, added or put into an if."""
        lines = text.split("\n")
        for _ in range(many):
            at, sort = self.random.randrange(len(lines)), self.random.random()
            if sort < 0.3 and "=" in lines[at]:
                lines[at] = line_of()
            elif sort < 0.6:
                lines.insert(at, line_of())
            elif sort < 0.8:
                lines.insert(at, "if " + test_of())
                lines.insert(self.random.randint(at + 1, len(lines)), "end")
            else:
                words = lines[at].split(" ")
                numbers = [k for k, word in enumerate(words) if word.isdigit()]
                if numbers:
                    words[self.random.choice(numbers)] = str(self.random.randint(2, 6))
                lines[at] = " ".join(words)
        return "\n".join(lines)

    def class_code(self, kind):
        names = ["a", "b", "bin", "size" if kind == "hang" else "len"]
        while True:
            text = self.random.choice(HANGS if kind == "hang" else ASKS)
            text = self.with_slips(text, lambda: self.class_line(kind), lambda: self.test(names, []),
                                   self.random.choice([0, 0, 1, 2, 3]))
            try:
                return BinCode(kind, text)
            except BlockError:
                continue

    def map_line(self, kind):
        told, other = self.random.choice("pq"), self.random.choice("pq")
        number = self.random.choice(["a", "b", "c", "bin", str(self.random.randrange(4))])
        return self.random.choice([
            f"{told} = word {number}", f"{told} = roof", f"{told} = {other}", f"{told} from {number}", f"{told} with {number}",
            f"{told} without {number}", f"{self.random.choice('abc')} = first {told}", f"word {number} = {told}",
            f"roof = {told}", f"{self.random.choice('abc')} = {self.terms(['a', 'b', 'c', 'bin'], '+-')}",
            f"{self.random.choice('abc')} = bin mod {self.random.randint(2, 4)}"] + ([f"tell {number}", "none"]
                                                                                     if kind == "find" else ["quit"]))

    def map_code(self, kind, text):
        parts = ["p empty", "q empty"]
        while True:
            changed = self.with_slips(text, lambda: self.map_line(kind), lambda: self.test(["a", "b", "c", "bin"], parts),
                                      self.random.choice([0, 1, 1, 2, 3]))
            try:
                return MapCode(kind, changed)
            except BlockError:
                continue


def right_roof(words):
    return sum(1 << at for at, word in enumerate(words) if word)


def play_map_again(rules, code, words, number):
    """How a play of a map code ends, what it tells, and the words and roof behind it: told by sets of bits."""
    held = {"p": set(), "q": set(), "a": 0, "b": 0, "c": 0, "bin": number}
    stand = [{bit for bit in range(rules.wide) if word >> bit & 1} for word in words]
    roof = {at for at, word in enumerate(words) if word}
    line = 1

    def told(ended, worth=None):
        return (ended, worth, tuple(sum(1 << bit for bit in word) for word in stand), sum(1 << bit for bit in roof))

    def worth_of(word):
        return int(word) if word.isdigit() else held[word]

    def part(words):
        if words[0] == "not":
            return not part(words[1:])
        if words[1] == "empty":
            return not held[words[0]]
        one, other = worth_of(words[0]), worth_of(words[2])
        return {"<": one < other, "<=": one <= other, "is": one == other}[words[1]]

    def skip(at):
        depth = 0
        while True:
            at += 1
            word = code[at].split(" ")[0]
            if depth == 0 and word in ("else", "end"):
                return at
            depth += 1 if word == "if" else -1 if word == "end" else 0

    while line <= len(code):
        words_of = code[line].split(" ")
        if words_of[0] == "if":
            if not all(part(one.split(" ")) for one in " ".join(words_of[1:]).split(" and ")):
                line = skip(line)
        elif words_of[0] in ("else", "end"):
            line = skip(line) if words_of[0] == "else" else line
        elif words_of[0] in ("quit", "none"):
            return told("refused" if words_of[0] == "none" else "beyond" if code.kind == "find" else "done")
        elif words_of[0] == "tell":
            return told("done", worth_of(words_of[1]))
        elif words_of[0] in ("word", "roof"):
            worth = set(held[words_of[-1]])
            if words_of[0] == "roof":
                roof = worth
            elif 0 <= worth_of(words_of[1]) < rules.words:
                stand[worth_of(words_of[1])] = worth
            else:
                return told("beyond")
        elif words_of[1] in ("from", "with", "without"):
            bit = worth_of(words_of[2])
            if not 0 <= bit < rules.wide:
                return told("beyond")
            old = held[words_of[0]]
            held[words_of[0]] = {one for one in old if one >= bit} if words_of[1] == "from" else (
                old | {bit} if words_of[1] == "with" else old - {bit})
        elif words_of[0] in "pq" and words_of[1] == "=":
            if words_of[2] == "word":
                if not 0 <= worth_of(words_of[3]) < rules.words:
                    return told("beyond")
                held[words_of[0]] = set(stand[worth_of(words_of[3])])
            else:
                held[words_of[0]] = set(roof if words_of[2] == "roof" else held[words_of[2]])
        elif words_of[0] in "abc":
            if words_of[2] == "first":
                if not held[words_of[3]]:
                    return told("beyond")
                held[words_of[0]] = min(held[words_of[3]])
            else:
                text = " ".join(words_of[2:]).replace("mod", "|")
                sign = [one for one in ("*", "//", "|") if f" {one} " in text]
                terms, by = (text.split(f" {sign[0]} ") if sign else (text, "1"))
                total, plus = 0, 1
                for word in terms.split(" "):
                    if word in "+-":
                        plus = 1 if word == "+" else -1
                    else:
                        total += plus * worth_of(word)
                by = int(by)
                held[words_of[0]] = total * by if not sign or sign[0] == "*" else total // by if sign[0] == "//" else total % by
        line += 1
    return told("beyond" if code.kind == "find" else "done")
