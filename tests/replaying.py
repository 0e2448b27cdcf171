"""What the second ways to play codes have in common: lines are read again each time they are played."""


class Lines:
    """The lines of a text, and what stands behind its names."""

    def __init__(self, text, worths):
        self.lines = text.split("\n") if text else []
        self.worths = worths

    def sum(self, words):
        total, sign = 0, 1
        for word in words:
            if word in ("+", "-"):
                sign = 1 if word == "+" else -1
            else:
                total += sign * (int(word) if word.isdigit() else self.worths[word])
        return total

    def holds(self, words):
        """Whether a part of a test holds."""
        if words[0] == "not":
            return not self.holds(words[1:])
        one, other = self.sum(words[:1]), self.sum(words[2:])
        return {"<": one < other, "<=": one <= other, "is": one == other}[words[1]]

    def block_end(self, at):
        """Where the else or end of a block stands."""
        depth = 0
        while True:
            at += 1
            word = self.lines[at].split(" ")[0]
            if depth == 0 and word in ("else", "end"):
                return at
            depth += 1 if word in ("if", "while") else -1 if word == "end" else 0

    def side_of(self, at):
        """The lines, from one to another one, that an if chooses, and where its end stands."""
        parts = self.lines[at][3:].split(" and ")
        middle = last = self.block_end(at)
        if self.lines[middle] == "else":
            last = self.block_end(middle)
        if all(self.holds(part.split(" ")) for part in parts):
            return at + 1, middle, last
        return min(middle + 1, last), last, last
