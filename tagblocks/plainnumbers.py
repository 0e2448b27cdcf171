"""Numbers that are known: what plays reckon with."""


class PlainNumbers:
    """Plain integers, asked as OpenNumbers are, so that a play can be written once for both."""

    def constant(self, worth):
        """A number of a text."""
        return worth

    def plus(self, one, times, other):
        """One number and another one, times a factor."""
        return one + times * other

    def below(self, one, other):
        """Whether one number is less than another one."""
        return one < other

    def same(self, one, other):
        """Whether two numbers are equal."""
        return one == other

    def is_multiple(self, number, unit):
        """Whether a unit divides a number."""
        return number % unit == 0
