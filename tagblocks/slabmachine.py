"""Plays of slab codes on numbers and pages that are known."""

from tagblocks.runs import compared_plainly, plain_sum, run_through

# Lines that change a page, so that a no behind them comes too late.
CHANGES = ("set", "clear", "list", "unlist", "drop")


def operand_of(step, rules):
    """The number by which a line multiplies or divides."""
    if isinstance(step[3], str):
        return rules.each if step[3] == "each" else rules.wide
    return step[3]


def fixed_worths(rules):
    """What stands behind the names of sums that all kinds have."""
    return {"head": rules.head, "each": rules.each, "wide": rules.wide, "a": 0, "b": 0, "c": 0}


def flags_behind(word, is_listed, is_dropped):
    """Whether a page is listed, and dropped, behind list, unlist or drop; None if the line is beyond."""
    if word == "drop":
        return None if is_listed or is_dropped else (False, True)
    return None if is_listed == (word == "list") else (word == "list", is_dropped)


class Page:
    """A page as it stands: the bits that are set, numbered over all map words."""

    def __init__(self, many, maps, lent):
        self.many = many
        self.maps = maps
        self.used = len(lent)
        self.marked = {place: True for place in lent}
        self.is_listed = len(lent) < many
        self.is_dropped = False

    def first_unset(self):
        """The number of the least bit that is not set, whether or not there is such a map word."""
        bit = 0
        while bit in self.marked:
            bit += 1
        return bit


class SlabMachine:
    """The numbers of a play of a slab code; lay plays without a page. All numbers are from 0 to the greatest word."""

    def __init__(self, rules, worths, page):
        self.rules = rules
        self.worths = fixed_worths(rules)
        self.worths.update(worths)
        self.page = page
        self.has_found = False
        self.has_number = False

    def part_holds(self, part):
        """Whether a part of a test holds; None if it is beyond."""
        if part[0] != "is set":
            return compared_plainly(part, self.worths)
        bit = self.bit_named()
        return None if bit is None else bit in self.page.marked

    def bit_named(self):
        """The number of the bit that word and bit name, or None if there is none."""
        word, bit = self.worths["word"], self.worths["bit"]
        if word >= self.page.maps or bit >= self.rules.wide:
            return None
        return word * self.rules.wide + bit

    def play_step(self, step):
        """Plays a line; whether it was not beyond."""
        if step[0] == "find":
            return self.play_find()
        if step[0] in ("set", "clear"):
            return self.play_mark(step[0])
        if len(step) == 1:
            return self.play_flag(step[0])
        worth = plain_sum(step[2], self.worths)
        by = operand_of(step, self.rules)
        if not 0 <= worth <= self.rules.top:
            return False
        if step[0] == "times":
            worth = worth * by
        elif step[0] == "parted":
            worth = worth // by
        elif step[0] == "rest":
            worth = worth % by
        if worth > self.rules.top:
            return False
        self.worths[step[1]] = worth
        if step[1] == "used":
            page = self.page
            page.used = worth
        self.has_number = self.has_number or step[1] == "number"
        return True

    def play_find(self):
        """Plays find; whether there is a bit that is not set."""
        bit = self.page.first_unset()
        if bit >= self.page.maps * self.rules.wide:
            return False
        self.worths["word"], self.worths["bit"] = divmod(bit, self.rules.wide)
        self.has_found = True
        return True

    def play_mark(self, word):
        """Plays set or clear; whether there is such a bit, and it stood the other way."""
        bit = self.bit_named()
        if word == "set":
            if not self.has_found or bit in self.page.marked:
                return False
            self.page.marked[bit] = True
            return True
        if bit is None or bit not in self.page.marked:
            return False
        self.page.marked.pop(bit)
        return True

    def play_flag(self, word):
        """Plays list, unlist or drop; whether the page is not so already."""
        page = self.page
        flags = flags_behind(word, page.is_listed, page.is_dropped)
        if flags is None:
            return False
        page.is_listed, page.is_dropped = flags
        return True


def page_worths(rules, page, at):
    """What stands behind the names of sums that plays on a page have."""
    return {"many": page.many, "base": rules.head + page.maps, "used": page.used, "word": 0, "bit": 0, "number": 0,
            "at": at}


def play_lay(rules, code, size):
    """The machine of a play of lay, and how it ended."""
    machine = SlabMachine(rules, {"size": size, "many": 0, "maps": 0}, None)
    return machine, run_through(code.outline, machine).ended


def play_page(rules, code, page, at):
    """The machine of a play of take (at is 0) or back on a page, which it changes, and how it ended."""
    machine = SlabMachine(rules, page_worths(rules, page, at), page)
    return machine, run_through(code.outline, machine).ended
