"""The errors of the package. Values stand in attributes alone: they may be of any kind, so no message shows them."""


class BlockError(ValueError):
    """What all errors of the package are."""


class BadKind(BlockError):
    """A kind that no code of this part has."""

    def __init__(self, kind):
        super().__init__("no such kind")
        self.kind = kind


class BadLine(BlockError):
    """A line of a text that has none of the forms at its place."""

    def __init__(self, line):
        super().__init__("a line has none of the forms")
        self.line = line


class Refused(BlockError):
    """A line of a text that breaks a limit."""

    def __init__(self, line):
        super().__init__("a line breaks a limit")
        self.line = line


class TooMany(BlockError):
    """A text with more lines, ifs or steps than it may have."""

    def __init__(self, what, many, most):
        super().__init__("a text has too many of something")
        self.what = what
        self.many = many
        self.most = most


class BadPromise(BlockError):
    """A promise that nothing of this part makes."""

    def __init__(self, promise):
        super().__init__("no such promise")
        self.promise = promise


class BadRule(BlockError):
    """Rules of which one is none."""

    def __init__(self, what):
        super().__init__("one of the rules is none")
        self.what = what


class BadSize(BlockError):
    """A value that is no size where one is wanted."""

    def __init__(self, size):
        super().__init__("no size for this call")
        self.size = size


class BadNumber(BlockError):
    """A value that is no number for this call."""

    def __init__(self, number):
        super().__init__("no number for this call")
        self.number = number


class BadCount(BlockError):
    """A value that is no count of places."""

    def __init__(self, many):
        super().__init__("no count of places")
        self.many = many


class BadCase(BlockError):
    """A value that is no case for a play."""

    def __init__(self, case):
        super().__init__("no case for this play")
        self.case = case


class BadOutcomes(BlockError):
    """Outcomes that the steps of a play cannot have."""

    def __init__(self, word):
        super().__init__("a step cannot come out so")
        self.word = word


class BadName(BlockError):
    """A name that nobody holds."""

    def __init__(self, name):
        super().__init__("nobody holds this name")
        self.name = name


class BadLength(BlockError):
    """A value that is no length for this call."""

    def __init__(self, length):
        super().__init__("no length for this call")
        self.length = length


class OtherKinds(BlockError):
    """Codes of other kinds than the part needs."""

    def __init__(self, part):
        super().__init__("codes of other kinds are needed")
        self.part = part


class OtherRules(BlockError):
    """Parts whose rules do not go together."""

    def __init__(self, part):
        super().__init__("the rules do not go together")
        self.part = part


class Broken(BlockError):
    """A call of something that is broken."""

    def __init__(self, part):
        super().__init__("this is broken")
        self.part = part


class BadGap(BlockError):
    """A value that is no gap for a move."""

    def __init__(self, gap):
        super().__init__("no gap for this move")
        self.gap = gap


class BadMap(BlockError):
    """Words that are no map."""

    def __init__(self, index):
        super().__init__("these words are no map")
        self.index = index
