"""Plays of slab codes on sizes and pages that are open."""

from tagblocks.forms import level, negated, plain, plus, shifted
from tagblocks.runs import compared, sum_of
from tagblocks.slabmachine import CHANGES, fixed_worths, flags_behind, operand_of
from tagblocks.slabsorts import MANY, MAPS, PLACE, USED


class OpenSlab:
    """The numbers of a play on open numbers, and what it did to the page.

    found is the number of the bit that find found, number_set what number was set to (behind find, in take), asked
    the number of the bit that was cleared or asked about, and is_bit_set whether it is set at the moment.
    """

    def __init__(self, sort, numbers):
        self.page_sort = sort
        self.rules = sort.rules
        self.numbers = numbers
        self.worths = {name: plain(worth) for name, worth in fixed_worths(sort.rules).items()}
        self.worths.update(sort.start_worths())
        self.found = None
        self.number_set = None
        self.asked = None
        self.is_bit_set = None
        self.has_marked = False
        self.is_listed = not sort.is_full
        self.is_dropped = False
        self.has_changed = False

    def part_holds(self, part):
        """Whether a part of a test holds; None if it is beyond."""
        if part[0] != "is set":
            return compared(part, self.worths, self.numbers)
        return self.is_bit_set if self.ask_bit() else None

    def play_step(self, step):
        """Plays a line; whether it was not beyond."""
        if step[0] in CHANGES:
            self.has_changed = True
        if step[0] == "find":
            return self.play_find()
        if step[0] in ("set", "clear"):
            return self.play_set() if step[0] == "set" else self.play_clear()
        if len(step) == 1:
            return self.play_flag(step[0])
        return self.play_sum(step)

    def play_sum(self, step):
        """Plays a line that sets something to a sum, or to what is made of one; whether it is a word."""
        form = sum_of(step[2], self.worths, self.numbers)
        by = operand_of(step, self.rules)
        if not self.is_word(form):
            return False
        if step[0] == "times":
            form = plus(plain(0), by, form)
            if not self.is_word(form):
                return False
        elif step[0] == "parted":
            form = self.numbers.quotient(form, by)
        elif step[0] == "rest":
            form = plus(form, -by, self.numbers.quotient(form, by))
        self.worths[step[1]] = form
        if step[1] == "used":
            self.has_changed = True
        elif step[1] == "number" and (self.page_sort.kind == "back" or self.found is not None):
            self.number_set = form
        return True

    def is_word(self, form):
        """Whether a form is from 0 to the greatest word."""
        return not self.numbers.below(form, plain(0)) and not self.numbers.below(plain(self.rules.top), form)

    def play_find(self):
        """Plays find: the least bit that is not set; whether there is one."""
        bits = plus(plain(0), self.rules.wide, {0: 0, MAPS: 1})
        if self.page_sort.is_full:
            if not self.numbers.below({0: 0, MANY: 1}, bits):
                return False
            self.found = {0: 0, MANY: 1}
        else:
            # So many places ahead of it are lent, and the others behind it.
            used = {0: 0, USED: 1}
            self.found = {0: 0, self.numbers.name_for(0, self.rules.top, used, 1): 1}
            self.numbers.define([plus(used, -1, self.found)])
        word = self.numbers.quotient(self.found, self.rules.wide)
        self.worths["word"] = word
        self.worths["bit"] = plus(self.found, -self.rules.wide, word)
        return True

    def play_set(self):
        """Plays set; whether there was a find ahead of it."""
        if self.found is None:
            return False
        self.has_marked = True
        return True

    def play_clear(self):
        """Plays clear; whether there is such a bit that is set."""
        if not self.ask_bit() or not self.is_bit_set:
            return False
        self.is_bit_set = False
        self.has_marked = True
        return True

    def ask_bit(self):
        """Learns whether the bit that word and bit name is set; whether there is such a bit."""
        if self.asked is None:
            wide = plain(self.rules.wide)
            if not self.numbers.below(self.worths["word"], {0: 0, MAPS: 1}):
                return False
            if not self.numbers.below(self.worths["bit"], wide):
                return False
            self.asked = plus(self.worths["bit"], self.rules.wide, self.worths["word"])
            self.is_bit_set = self.numbers.choose(self.bit_choices(self.asked))
        return True

    def bit_choices(self, bit):
        """Whether a bit is set, and the rows that hold then: other places than the one of at may be lent or not."""
        many, used, place = {0: 0, MANY: 1}, {0: 0, USED: 1}, {0: 0, PLACE: 1}
        is_place = [shifted(plus(many, -1, bit), -1)]
        unlent = plus(many, -1, used)
        choices = [(False, [plus(bit, -1, many)])]
        if self.page_sort.where != "place":
            return [*choices, (True, [*is_place, shifted(used, -1)]), (False, [*is_place, shifted(unlent, -1)])]
        owing = self.page_sort.is_owing
        choices.append((owing, level(plus(bit, -1, place))))
        gap = plus(bit, -1, place)
        for unlike in (shifted(gap, -1), shifted(negated(gap), -1)):
            choices.append((True, [*is_place, unlike, shifted(used, -2 if owing else -1)]))
            choices.append((False, [*is_place, unlike, shifted(unlent, -1 if owing else -2)]))
        return choices

    def play_flag(self, word):
        """Plays list, unlist or drop; whether the page is not so already."""
        flags = flags_behind(word, self.is_listed, self.is_dropped)
        if flags is None:
            return False
        self.is_listed, self.is_dropped = flags
        return True
