"""Verdicts on block codes, for all block cases."""

from tagblocks.blockjudge import BLOCK_PROMISES, Judge
from tagblocks.blockmachine import BlockMachine
from tagblocks.blocksorts import ALL_GAPS, OPEN_NAMES, WORST_GAPS, case_of, sorts_of
from tagblocks.checks import check_promise
from tagblocks.errors import BadSize
from tagblocks.forms import level
from tagblocks.runs import run_through
from tagblocks.solving import Solved, stretches_of
from tagblocks.stretchsets import StretchSet
from tagblocks.texts import is_from


def ways_of(code, sort, rows, solved):
    """The ways of all plays on the cases of a sort for which rows hold: pairs of the broken promises and the rows."""
    found = []
    waiting = [([], sort.start_rows() + rows)]
    while waiting:
        trail, known = waiting.pop()
        numbers = sort.open_numbers(code.rules, trail, known, solved)
        machine = BlockMachine(sort.open_scene(code.rules, numbers), code.rules, numbers)
        run = run_through(code.outline, machine)
        broken = Judge(machine, run.ended).breaches()
        if not numbers.is_lost:
            found.append((broken, numbers.whole_rows([])))
        waiting.extend(numbers.waiting)
    return found


class Findings:
    """What is found of a code: for each promise the numbers of units of own with which it is broken."""

    def __init__(self, code):
        self.sets = {}
        self.ways = []
        solved = Solved()
        for sort in sorts_of(code.kind, WORST_GAPS):
            self.ways = self.ways + [way for way in ways_of(code, sort, [], solved) if way[0]]

    def set_for(self, promises):
        """The set of the numbers of units with which one of some promises is broken."""
        if promises not in self.sets:
            stretches = []
            for broken, rows in self.ways:
                if [promise for promise in promises if promise in broken]:
                    stretches = stretches + stretches_of(rows, OPEN_NAMES["own"])
            self.sets[promises] = StretchSet(stretches)
        return self.sets[promises]


def findings_of(code):
    """What is found of a code; it is looked for once."""
    if code.findings is None:
        code.findings = Findings(code)
    return code.findings


def check_size(size):
    """Raises BadSize for a value that is no integer from 1 on."""
    if not is_from(size, 1):
        raise BadSize(size)


def sized(code, units):
    """The size of so many units, or None for None."""
    return None if units is None else code.rules.unit * units


def units_from(code, size):
    """How many units the least size in use from a size on has."""
    return code.rules.next_in_use(size) // code.rules.unit


def next_block_break(code, promise, size):
    """The least size of own from a size on at which some play breaks a promise, or None."""
    check_promise(promise, BLOCK_PROMISES)
    check_size(size)
    return sized(code, findings_of(code).set_for((promise,)).least_from(units_from(code, size)))


def block_keeps(code, promise):
    """Whether a code keeps a promise."""
    return next_block_break(code, promise, 1) is None


def block_kept(code):
    """The promises that a code keeps."""
    return tuple([promise for promise in BLOCK_PROMISES if block_keeps(code, promise)])


def worths_of(rows, sort):
    """For each open number of a sort some number of units with which rows hold."""
    worths = {}
    for name in sort.open_names():
        worth = min([low for low, _, _ in stretches_of(rows, OPEN_NAMES[name])])
        rows = rows + level({0: -worth, OPEN_NAMES[name]: 1})
        worths[name] = worth
    return worths


def least_block_case(code, promise):
    """A case that breaks a promise with the least size of own, and of these one with the fewest blocks; or None."""
    size = next_block_break(code, promise, 1)
    if size is None:
        return None
    sorts = sorts_of(code.kind, ALL_GAPS)
    rows = level({0: -size // code.rules.unit, OPEN_NAMES["own"]: 1})
    solved = Solved()
    for many in sorted({sort.many_blocks(): True for sort in sorts}):
        for sort in sorts:
            if sort.many_blocks() == many:
                for broken, known in ways_of(code, sort, rows, solved):
                    if promise in broken:
                        return case_of(sort, code.rules, worths_of(known, sort))
    return None


def wrong_set(code):
    """The set of the numbers of units of own with which a code is not right."""
    return findings_of(code).set_for(BLOCK_PROMISES)


def next_wrong_block(code, size):
    """The least size in use from a size on at which a code is not right, or None."""
    check_size(size)
    return sized(code, wrong_set(code).least_from(units_from(code, size)))


def block_is_right(code, size):
    """Whether a code is right at a size."""
    check_size(size)
    return not code.rules.in_use(size) or next_wrong_block(code, size) != size


def next_right_block(code, size):
    """The least size in use from a size on at which a code is right, or None."""
    check_size(size)
    return sized(code, wrong_set(code).least_outside(units_from(code, size)))


def wrong_blocks(code, size):
    """At how many sizes from 1 to a size a code is not right."""
    check_size(size)
    return wrong_set(code).count_to(size // code.rules.unit)
