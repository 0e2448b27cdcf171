"""Playing the lines of a code on a machine that knows what each step does."""


class Run:
    """A play that is over: how it ended, the lines that were played and the sides of its ifs, as they came."""

    def __init__(self):
        self.ended = "done"
        self.played = []
        self.chosen = []


def sum_of(terms, values, numbers):
    """What a sum comes to."""
    total = numbers.constant(0)
    for sign, term in terms:
        total = numbers.plus(total, sign, worth_of(term, values, numbers))
    return total


def worth_of(term, values, numbers):
    """What a name or a number stands for."""
    if isinstance(term, str):
        return values[term]
    return numbers.constant(term)


def compared(part, values, numbers):
    """Whether a part of a test that compares two words holds."""
    left = worth_of(part[1], values, numbers)
    right = worth_of(part[2], values, numbers)
    if part[0] == "<":
        return numbers.below(left, right)
    if part[0] == "<=":
        return not numbers.below(right, left)
    return numbers.same(left, right)


def test_holds(test, machine):
    """Whether a test holds, asked from the left; None if the play goes beyond."""
    for wanted, part in test:
        held = machine.part_holds(part)
        if held is None:
            return None
        if held != wanted:
            return False
    return True


def run_through(outline, machine):
    """Plays an outline: machine.play_step tells whether a step was played, machine.part_holds answers parts."""
    run = Run()
    line = 1
    while line <= outline.many_lines() and run.ended == "done":
        step = outline.step_at(line)
        if step[0] == "else":
            line = outline.target_at(line)
            continue
        if step[0] != "end":
            run.played.append(line)
        line = line_behind(outline, line, machine, run)
    return run


def line_behind(outline, line, machine, run):
    """Plays one line, and tells the next one; the run is told if it has ended otherwise than done."""
    step = outline.step_at(line)
    if step[0] == "end":
        return line + 1
    if step[0] == "quit":
        return outline.many_lines() + 1
    if step[0] == "no":
        run.ended = "refused"
    elif step[0] == "while":
        if machine.play_while(outline, line, run):
            return outline.target_at(line)
        run.ended = "beyond"
    elif step[0] == "if":
        side = test_holds(step[1], machine)
        if side is None:
            run.ended = "beyond"
            return line
        run.chosen.append((line, side))
        if not side:
            return outline.target_at(line)
    elif not machine.play_step(step):
        run.ended = "beyond"
    return line + 1


def plain_sum(terms, values):
    """What a sum of known numbers comes to."""
    return sum([sign * (values[term] if isinstance(term, str) else term) for sign, term in terms])


def compared_plainly(part, values):
    """Whether a part of a test that compares two known numbers holds."""
    left, right = [values[term] if isinstance(term, str) else term for term in part[1:]]
    if part[0] == "<":
        return left < right
    return left <= right if part[0] == "<=" else left == right
