"""The rules of deeds: which places and blocks are handed out."""

from tagblocks.errors import BadRule
from tagblocks.headrules import is_between
from tagblocks.texts import is_from

MOST_SLOTS = 4
MOST_UNIT = 16


def are_slots(slots):
    """Whether a value is a list of up to four numbers from 1 on, each greater than the one ahead of it."""
    if not isinstance(slots, (list, tuple)) or len(slots) > MOST_SLOTS:
        return False
    least = 1
    for slot in slots:
        if not is_from(slot, least):
            return False
        least = slot + 1
    return True


class DeedRules:
    """The rooms of the classes of places, the least room of a page, and the least room and the unit of blocks."""

    def __init__(self, slots, page, least, unit):
        if not are_slots(slots):
            raise BadRule("slots")
        if not is_from(page, 1):
            raise BadRule("page")
        if not is_from(least, 1):
            raise BadRule("least")
        if not is_between(unit, 1, MOST_UNIT):
            raise BadRule("unit")
        self.slots = tuple(slots)
        self.page = page
        self.least = least
        self.unit = unit

    def __eq__(self, other):
        return (isinstance(other, DeedRules) and self.slots == other.slots and self.page == other.page
                and self.least == other.least and self.unit == other.unit)

    def small(self):
        """The room of the last class of places, 0 if there are none."""
        return self.slots[-1] if self.slots else 0

    def is_block_room(self, room):
        """Whether a value is a room that blocks have."""
        return is_from(room, self.least) and (room - self.least) % self.unit == 0

    def is_piece(self, piece):
        """Whether a value, of any kind, is a pair that tells a piece."""
        if not isinstance(piece, tuple) or len(piece) != 2:
            return False
        sort, room = piece
        if not isinstance(sort, str):
            return False
        if sort == "place":
            return is_from(room, 1) and room in self.slots
        return sort == "block" and self.is_block_room(room)
