"""The machine that plays top codes. Numbers are forms, so that they may be open."""

from tagblocks.forms import level, negated, plain, plus, shifted
from tagblocks.runs import compared, run_through, sum_of
from tagblocks.toplines import REGISTERS, divisor_of


class TopMachine:
    """A play of a top code on a state and a need (None for trim): how it ended, and the size and the top it left.

    asks has for each ask the words and whether they were granted, gives for each give the words.
    """

    def __init__(self, code, numbers, size, top, need):
        rules = code.rules
        self.rules = rules
        self.numbers = numbers
        self.start_size = size
        self.start_top = top
        self.wanted = need
        self.worths = {"size": size, "top": top, "need": need, "unit": plain(rules.unit), "least": plain(rules.least),
                       "page": plain(rules.page), "fence": plain(rules.fence)}
        self.worths.update({name: plain(0) for name in REGISTERS})
        self.given = plain(0)
        self.asks = []
        self.gives = []
        self.is_granted = False
        run = run_through(code.outline, self)
        self.ended = run.ended
        self.played = run.played

    def part_holds(self, part):
        """Whether a part of a test holds."""
        return self.is_granted if part[0] == "granted" else compared(part, self.worths, self.numbers)

    def play_step(self, step):
        """Plays a line; whether it is not beyond."""
        if step[0] in ("ask", "give"):
            words = sum_of(step[1], self.worths, self.numbers)
            if self.numbers.below(words, plain(0)) or not self.is_multiple(words, self.rules.page):
                return False
            return self.play_ask(words) if step[0] == "ask" else self.play_give(words)
        amount = sum_of(step[2], self.worths, self.numbers)
        if step[1] == "top" and self.numbers.below(amount, plain(0)):
            return False
        if step[0] != "set":
            amount = self.made_of(amount, step[0], divisor_of(step, self.rules))
        self.worths[step[1]] = amount
        return True

    def play_ask(self, words):
        """Plays a line with ask."""
        size = plus(self.worths["size"], 1, words)
        limit = self.rules.limit
        self.is_granted = limit is None or not self.numbers.below(plain(limit), size)
        self.asks.append((words, self.is_granted))
        if self.is_granted:
            self.worths["size"] = size
        return True

    def play_give(self, words):
        """Plays a line with give; whether the top has so many words left."""
        given = plus(self.given, 1, words)
        if self.numbers.below(self.start_top, given):
            return False
        self.given = given
        self.gives.append(words)
        self.worths["size"] = plus(self.worths["size"], -1, words)
        return True

    def made_of(self, amount, sign, by):
        """What a sign and a number make of an amount."""
        if sign == "*":
            return plus(plain(0), by, amount)
        if sign == "up":
            return plus(plain(0), -by, self.quotient(negated(amount), by))
        quotient = self.quotient(amount, by)
        return quotient if sign == "//" else plus(plain(0), by, quotient)

    def quotient(self, amount, by):
        """An amount divided and rounded down."""
        whole = whole_part(amount, by)
        rest = plus(amount, -by, whole)
        if len(rest) == 1:
            return shifted(whole, rest[0] // by)
        return plus(whole, 1, self.numbers.quotient(rest, by))

    def is_multiple(self, amount, by):
        """Whether an amount is a multiple of a number."""
        rest = plus(amount, -by, whole_part(amount, by))
        if len(rest) == 1:
            return rest[0] % by == 0
        left = plus(rest, -by, {0: 0, self.numbers.new_name(None, None): 1})
        return self.numbers.choose([(True, level(left)),
                                    (False, [shifted(left, -1), shifted(negated(left), by - 1)])])


def whole_part(amount, by):
    """A form that is the quotient of the names of an amount whose factors a number divides, without what is added."""
    whole = {name: factor // by for name, factor in amount.items() if name and factor % by == 0}
    whole[0] = 0
    return whole
