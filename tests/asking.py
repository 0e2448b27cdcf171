"""What several tests need: asking which error a call raises, with its attributes, and asking in good time."""

import signal

from tagblocks.errors import BlockError

# Values that are no integers, and so no numbers, sizes or words.
NO_INTEGERS = [True, False, None, "1", "", 1.0, [], (1,), {}, b"1", object()]


def error_of(call, *arguments, **named):
    """The name of the error that a call raises and its attributes, in their order; None if it raises none."""
    try:
        call(*arguments, **named)
    except BlockError as error:
        return (type(error).__name__, *vars(error).values())
    return None


def too_late(number, frame):
    raise AssertionError("no answer within the time")


def in_time(seconds, question, *handed):
    """The answer to a question; an AssertionError if it does not come within so many seconds."""
    signal.signal(signal.SIGALRM, too_late)
    signal.alarm(seconds)
    try:
        return question(*handed)
    finally:
        signal.alarm(0)
