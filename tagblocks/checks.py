"""What questions check of what is handed to them."""

from tagblocks.errors import BadNumber, BadPromise
from tagblocks.texts import is_among, is_from


def check_promise(promise, promises):
    """Raises BadPromise for a value that is none of the promises."""
    if not is_among(promise, promises):
        raise BadPromise(promise)


def check_number(number):
    """Raises BadNumber for a value that is no integer from 0 on."""
    if not is_from(number, 0):
        raise BadNumber(number)
