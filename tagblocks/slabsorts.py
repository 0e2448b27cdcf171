"""The sorts of plays of slab codes: what is open in them, and what is known of it from the start."""

from tagblocks.forms import level, negated, plain, plus, shifted
from tagblocks.opennumbers import spread

# The names of the open numbers: a size, or many places, map words, lent places; an address, a place, and what is over.
SIZE = 1
MANY = 1
MAPS = 2
USED = 3
AT = 4
PLACE = 5
OVER = 6


class SlabSort:
    """A sort of plays: whether something else than a no is owed, whether all places are lent, and where at is.

    where is "place" if at is the first word of a place, else "ahead", "behind" or "between" places, and None for take.
    """

    def __init__(self, rules, kind, is_owing, is_full, where):
        self.rules = rules
        self.kind = kind
        self.is_owing = is_owing
        self.is_full = is_full
        self.where = where

    def name_lows(self):
        """The least number of each name."""
        if self.kind == "lay":
            return {SIZE: self.rules.head + 1 + self.rules.each}
        lows = {MANY: 1, MAPS: 1, USED: 0}
        if self.where == "ahead":
            lows[AT] = 0
        if self.where in ("place", "between"):
            lows[PLACE] = 0
        if self.where in ("behind", "between"):
            lows[OVER] = 0 if self.where == "behind" else 1
        return lows

    def name_tops(self):
        """The greatest number of each name."""
        top = self.rules.top
        if self.kind == "lay":
            return {SIZE: top}
        many = self.rules.places_for(top)
        tops = {AT: top, MANY: many, MAPS: self.rules.least_maps(many), USED: many, PLACE: many - 1, OVER: top}
        if self.where == "between":
            tops[OVER] = self.rules.each - 1
        return {name: tops[name] for name in self.name_lows()}

    def base(self):
        """The address of the first place."""
        return {0: self.rules.head, MAPS: 1}

    def start_rows(self):
        """The rows that hold from the start."""
        if self.kind == "lay":
            return []
        lent = {0: 0, MANY: 1, USED: -1}
        rows = level(lent) if self.is_full else [shifted(lent, -1)]
        if self.kind == "back" and self.is_owing:
            rows.append({0: -1, USED: 1})
        return rows + self.address_rows()

    def maps_rows(self):
        """The rows that tell the number of map words."""
        spare = {0: 0, MANY: -1, MAPS: self.rules.wide}
        return [spare, shifted(negated(spare), self.rules.wide - 1)]

    def address_form(self):
        """The address that is handed to back."""
        if self.where == "ahead":
            return {0: 0, AT: 1}
        place = {0: 0, (MANY if self.where == "behind" else PLACE): 1}
        found = plus(self.base(), self.rules.each, place)
        return found if self.where == "place" else plus(found, 1, {0: 0, OVER: 1})

    def address_rows(self):
        """The rows that tell where the address is."""
        if self.where is None:
            return []
        if self.where == "ahead":
            return [shifted(plus(self.base(), -1, self.address_form()), -1)]
        if self.where == "behind":
            return [shifted(negated(self.address_form()), self.rules.top)]
        return [{0: -1, MANY: 1, PLACE: -1}]

    def start_worths(self):
        """What the names of sums of the kind stand for at the start, but those that are fixed by rules."""
        if self.kind == "lay":
            return {"size": {0: 0, SIZE: 1}, "many": plain(0), "maps": plain(0)}
        found = {"many": {0: 0, MANY: 1}, "base": self.base(), "used": {0: 0, USED: 1}}
        for name in ("word", "bit", "number", "at"):
            found[name] = plain(0)
        if self.kind == "back":
            found["at"] = self.address_form()
        return found

    def page_points(self):
        """Some sizes or pages, with addresses, told by the names: where rows hold at one of them, they can hold."""
        rules = self.rules
        if self.kind == "lay":
            low, high = rules.head + 1 + rules.each, rules.top
            return [{SIZE: size} for size in spread(low, high, rules.each * rules.wide + 1)]
        found = []
        for many in spread(1, rules.places_for(rules.top), rules.wide):
            found = found + self.points_with(many)
        return found

    def points_with(self, many):
        """Some pages with so many places, with addresses."""
        rules = self.rules
        page = {MANY: many, MAPS: rules.least_maps(many)}
        first = rules.head + page[MAPS]
        addresses = {
            "place": [{PLACE: many - 1}, {PLACE: 0}, {PLACE: many // 2}],
            "ahead": [{AT: first - 1}, {AT: 0}],
            "behind": [{OVER: 0}, {OVER: rules.top - first - rules.each * many}],
            "between": [{PLACE: 0, OVER: 1}, {PLACE: many - 1, OVER: rules.each - 1}]}
        lent = [many] if self.is_full else [1, many - 1, many // 2, 0]
        pairs = [(lent[at % len(lent)], address) for at, address in enumerate(addresses.get(self.where, [{}] * 3))]
        return [{**page, USED: used, **address} for used, address in pairs]


def sorts_of(rules, kind):
    """All sorts of plays of codes of a kind."""
    if kind == "lay":
        return [SlabSort(rules, kind, True, False, None)]
    if kind == "take":
        return [SlabSort(rules, kind, True, False, None), SlabSort(rules, kind, False, True, None)]
    places = [SlabSort(rules, kind, True, is_full, "place") for is_full in (True, False)]
    places.append(SlabSort(rules, kind, False, False, "place"))
    odd = [SlabSort(rules, kind, False, is_full, where) for is_full in (True, False)
           for where in ("ahead", "behind", "between") if where != "between" or rules.each > 1]
    return places + odd
