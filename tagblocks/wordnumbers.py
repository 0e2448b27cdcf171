"""Open numbers whose low twos are asked for: names are parted into their low twos and what is above them."""

from tagblocks.forms import plain, plus, put_in, shifted
from tagblocks.opennumbers import OpenNumbers

# A quotient with more possible values than these becomes a name of its own.
MANY_QUOTIENTS = 8


class WordNumbers(OpenNumbers):
    """Open numbers with ends; parts has for each parted name its two names and the number of the low twos."""

    def __init__(self, lows, tops, trail, rows, solved, points=()):
        super().__init__(lows, tops, trail, rows, solved, points)
        self.parts = {}

    def opened(self, form):
        """A form without names that are parted."""
        while True:
            parted = [name for name in form if name in self.parts]
            if not parted:
                return form
            for name in parted:
                low, high, power = self.parts[name]
                form = put_in(form, name, {0: 0, low: 1, high: 1 << power})

    def ranges(self, names):
        """The rows that tell the ranges of those of some names that are not parted."""
        return super().ranges([name for name in names if name not in self.parts])

    def below(self, one, other):
        """Whether one number is less than another one."""
        return super().below(self.opened(one), self.opened(other))

    def same(self, one, other):
        """Whether two numbers are equal."""
        return super().same(self.opened(one), self.opened(other))

    def moved_down(self, number, power):
        """A number divided by 2 ** power, rounded down."""
        if power == 0:
            return number
        form = self.parted_at(self.opened(number), power)
        divisor = 1 << power
        high = {name: factor // divisor for name, factor in form.items() if factor % divisor == 0 or name == 0}
        low = {name: factor for name, factor in form.items() if factor % divisor != 0}
        low[0] = form[0] % divisor
        least, greatest = self.ends(low)
        if least >> power == greatest >> power:
            return shifted(high, least >> power)
        return plus(high, 1, self.carry(low, power, least >> power, greatest >> power))

    def carry(self, low, power, least, greatest):
        """The quotient of a form that lies between two of them: one of them for each way, or a new name."""
        if greatest - least < MANY_QUOTIENTS:
            return plain(self.choose([(worth, between(low, plain(worth), power))
                                      for worth in range(least, greatest + 1)]))
        name = self.name_for(0, greatest - least, shifted(low, -(least << power)), 1 << power)
        quotient = {0: least, name: 1}
        self.meanings[name] = between(low, quotient, power)
        return quotient

    def parted_at(self, form, power):
        """A form whose names are parted so that above the low twos 2 ** power divides their factors."""
        while True:
            wide = [name for name, factor in form.items() if name and self.is_wide(name, factor, power)]
            if not wide:
                return form
            for name in wide:
                self.part_name(name, power - twos_in(form[name]))
            form = self.opened(form)

    def is_wide(self, name, factor, power):
        """Whether a name has twos that 2 ** power divides when they are times the factor, beside others."""
        twos = twos_in(factor)
        return twos < power and self.tops[name] >> (power - twos) > 0

    def part_name(self, name, power):
        """Parts a name into its low twos and what is above them, which mean what it meant."""
        top = self.tops[name]
        high = self.name_for(0, top >> power, {0: 0, name: 1}, 1 << power)
        low = self.name_for(0, (1 << power) - 1, {0: 0, name: 1, high: -(1 << power)}, 1)
        self.parts[name] = (low, high, power)
        meaning = self.meanings.pop(name, [])
        if (top + 1) & ((1 << power) - 1):
            meaning = [*meaning, {0: top, low: -1, high: -(1 << power)}]
        self.meanings[low] = meaning
        self.meanings[high] = meaning


def twos_in(factor):
    """How often two divides a number that is not 0."""
    return (factor & -factor).bit_length() - 1


def between(low, quotient, power):
    """The rows that tell that one form is the quotient of another one by 2 ** power."""
    rest = plus(low, -(1 << power), quotient)
    return [rest, shifted({name: -factor for name, factor in rest.items()}, (1 << power) - 1)]
