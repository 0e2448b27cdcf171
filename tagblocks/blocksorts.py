"""The sorts of block cases: which blocks are beside own, what lies behind them, and how the ring runs through them.

Of the places between two that follow one another in the ring none, one, two or three are other blocks: as no code can
name the middle one of three, more of them are no worse, and three are as bad as one or two.
"""

from tagblocks.opennumbers import OpenNumbers
from tagblocks.scenes import Scene

# The names of the open numbers: so many units have own, the blocks ahead and behind, want, and the head behind.
OPEN_NAMES = {"own": 1, "ahead": 2, "behind": 3, "want": 4, "end": 5}
WORST_GAPS = (0, 3)
ALL_GAPS = (0, 1, 2, 3)


class Sort:
    """A sort of cases for codes of a kind: the free blocks of the stretch in the order of the ring, and the gaps.

    A gap tells how many other blocks there are: the first one behind bin, the others behind the free blocks.
    """

    def __init__(self, kind, beside, is_fence, order, gaps):
        self.kind = kind
        self.beside = beside
        self.is_fence = is_fence
        self.order = order
        self.gaps = gaps

    def many_blocks(self):
        """How many blocks a row needs at least: other free blocks need a used one each beside them."""
        core = 1 + len(self.beside)
        if self.is_fence:
            return core + 2 * sum(self.gaps)
        return core + max(1, 2 * sum(self.gaps))

    def open_names(self):
        """The names of the numbers that are open in this sort."""
        names = ["own", *self.beside]
        if self.kind != "free":
            names.append("want")
        return names if self.is_fence else [*names, "end"]

    def start_rows(self):
        """The rows that hold in this sort from the start."""
        if self.kind == "grow":
            return [{0: -1, OPEN_NAMES["want"]: 1, OPEN_NAMES["own"]: -1}]
        if self.kind == "cut":
            return [{0: 0, OPEN_NAMES["own"]: 1, OPEN_NAMES["want"]: -1}]
        return []

    def open_numbers(self, rules, trail, rows, solved):
        """The open numbers of a play."""
        lows = {OPEN_NAMES[name]: rules.least // rules.unit for name in self.open_names()}
        numbers = OpenNumbers(lows, {name: None for name in lows}, trail, rows, solved)
        # What waits was seen to be able to hold.
        numbers.is_sure = len(trail) > 0
        return numbers

    def open_scene(self, rules, numbers):
        """The scene of a play, with own at the address 0."""
        sizes = {name: {0: 0, OPEN_NAMES[name]: rules.unit} for name in self.open_names()}
        want = sizes.pop("want", None)
        if self.is_fence:
            sizes["end"] = numbers.constant(0)
        start = numbers.constant(0)
        starts = {"own": start, "behind": sizes["own"]}
        if "ahead" in sizes:
            starts["ahead"] = numbers.plus(start, -1, sizes["ahead"])
        return Scene(self.kind, start, sizes, want, self.ring_places(starts), numbers)

    def ring_places(self, starts):
        """The places of the ring behind bin: other blocks are told by numbers from 1 on."""
        places = []
        many = 0
        for at, gap in enumerate(self.gaps):
            if at > 0:
                places.append(("at", starts[self.order[at - 1]]))
            places = places + [("outside", many + one) for one in range(1, gap + 1)]
            many += gap
        return places


def orders_of(free):
    """The orders in which the ring can run through free blocks of the stretch, two at the most."""
    return [free] if len(free) < 2 else [free, free[::-1]]


def rows_of(numbers, many):
    """All tuples of so many of some numbers."""
    rows = [()]
    for _ in range(many):
        rows = [(*row, number) for row in rows for number in numbers]
    return rows


def besides(kind):
    """Which free blocks can be beside own."""
    if kind == "take":
        return [()]
    return [(), ("ahead",), ("behind",), ("ahead", "behind")]


def sorts_of(kind, gaps):
    """The sorts of cases for codes of a kind, with some numbers of blocks in gaps."""
    sorts = []
    for beside in besides(kind):
        free = ("own",) if kind == "take" else beside
        for order in orders_of(free):
            for row in rows_of(gaps, len(free) + 1):
                sorts = sorts + [Sort(kind, beside, is_fence, order, row) for is_fence in (True, False)]
    return sorts


def case_of(sort, rules, worths):
    """The case of a sort with the fewest blocks, whose open numbers are so many units each."""
    size_of = {name: rules.unit * worths[name] for name in sort.open_names()}
    others = sum(sort.gaps)
    spare = (rules.least, True)
    row = [(rules.least, False), spare] * (others if sort.is_fence else 0)
    numbers = {}
    for name in ("ahead", "own", "behind"):
        if name in size_of:
            numbers[name] = len(row)
            row.append((size_of[name], name == "own" and sort.kind != "take"))
    if not sort.is_fence:
        row.append((size_of["end"], True))
        row = row + [(rules.least, False), spare] * others
        row = row[:-1] if others else row
    inside = list(numbers.values())
    outside = [at for at, (_, is_used) in enumerate(row) if not is_used and at not in inside]
    ring = [outside[place[1] - 1] if place[0] == "outside" else numbers[place[1]]
            for place in sort.ring_places({name: name for name in sort.order})]
    return (tuple(row), tuple(ring), numbers["own"], size_of.get("want"))
