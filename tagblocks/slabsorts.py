"""The sorts of plays of slab codes: what is open in them, and what is known of it from the start."""

from tagblocks.forms import level, negated, plain, plus, shifted

# The names of the open numbers: a size, or many places, map words, lent places; an address, a place, and what is over.
SIZE = 1
MANY = 1
MAPS = 2
USED = 3
AT = 4
PLACE = 5
OVER = 6


class SlabSort:
    """A sort of plays: whether something else than a no is owed, whether all places are lent, and where at is.

    where is "place" if at is the first word of a place, else "ahead", "behind" or "between" places, and None for take.
    """

    def __init__(self, rules, kind, is_owing, is_full, where):
        self.rules = rules
        self.kind = kind
        self.is_owing = is_owing
        self.is_full = is_full
        self.where = where

    def name_lows(self):
        """The least number of each name."""
        if self.kind == "lay":
            return {SIZE: self.rules.head + 1 + self.rules.each}
        lows = {MANY: 1, MAPS: 1, USED: 0}
        if self.kind == "back":
            lows[AT] = 0
            if self.where in ("place", "between"):
                lows[PLACE] = 0
            if self.where == "between":
                lows[OVER] = 1
        return lows

    def name_tops(self):
        """The greatest number of each name."""
        top = self.rules.top
        if self.kind == "lay":
            return {SIZE: top}
        tops = {name: top for name in self.name_lows()}
        tops[MANY] = self.rules.places_for(top)
        if self.where == "between":
            tops[OVER] = self.rules.each - 1
        return tops

    def base(self):
        """The address of the first place."""
        return {0: self.rules.head, MAPS: 1}

    def start_rows(self):
        """The rows that hold from the start."""
        if self.kind == "lay":
            return []
        many, used = {0: 0, MANY: 1}, {0: 0, USED: 1}
        maps = plus(negated(many), self.rules.wide, {0: 0, MAPS: 1})
        rows = [maps, shifted(negated(maps), self.rules.wide - 1)]
        lent = plus(many, -1, used)
        rows = rows + (level(lent) if self.is_full else [shifted(lent, -1)])
        if self.kind == "back" and self.is_owing:
            rows.append(shifted(used, -1))
        return rows + self.address_rows()

    def address_rows(self):
        """The rows that tell where the address is."""
        if self.where is None:
            return []
        behind = plus({0: 0, AT: 1}, -1, self.base())
        many, place = {0: 0, MANY: 1}, {0: 0, PLACE: 1}
        if self.where == "ahead":
            return [shifted(negated(behind), -1)]
        if self.where == "behind":
            return [plus(behind, -self.rules.each, many)]
        inside = [shifted(plus(many, -1, place), -1)]
        rest = plus(behind, -self.rules.each, place)
        if self.where == "between":
            rest = plus(rest, -1, {0: 0, OVER: 1})
        return inside + level(rest)

    def start_worths(self):
        """What the names of sums of the kind stand for at the start, but those that are fixed by rules."""
        if self.kind == "lay":
            return {"size": {0: 0, SIZE: 1}, "many": plain(0), "maps": plain(0)}
        found = {"many": {0: 0, MANY: 1}, "base": self.base(), "used": {0: 0, USED: 1}}
        for name in ("word", "bit", "number", "at"):
            found[name] = plain(0)
        if self.kind == "back":
            found["at"] = {0: 0, AT: 1}
        return found


def sorts_of(rules, kind):
    """All sorts of plays of codes of a kind."""
    if kind == "lay":
        return [SlabSort(rules, kind, True, False, None)]
    if kind == "take":
        return [SlabSort(rules, kind, True, False, None), SlabSort(rules, kind, False, True, None)]
    places = [SlabSort(rules, kind, True, is_full, "place") for is_full in (True, False)]
    places.append(SlabSort(rules, kind, False, False, "place"))
    odd = [SlabSort(rules, kind, False, is_full, where) for is_full in (True, False)
           for where in ("ahead", "behind", "between") if where != "between" or rules.each > 1]
    return places + odd
