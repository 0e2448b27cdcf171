"""A second way to play programs: words of memory are plain tuples, and the lines of codes are read one by one."""

from binmakers import play_map_again
from deedmakers import Again
from replaying import Lines
from tagblocks.errors import BlockError, Broken
from tagblocks.moveplay import MovePlay
from tagblocks.slabs import SlabPage
from topmakers import TopAgain


class Stop(Exception):
    """What was beyond, told by a pair."""


class Beyond(Exception):
    """A play of a block code, or of a class code, that is beyond."""


class BlockAgain(Lines):
    """A play of a block code in a memory."""

    def __init__(self, one, code, own, want):
        super().__init__(code.text, {"a": 0, "b": 0, "c": 0, "want": want, "unit": code.rules.unit, "least": code.rules.least})
        self.one, self.held = one, {"own": own, "p": None, "q": None, "r": None, "s": None, "bin": "bin"}
        size, _, is_ahead_used = one.head(own) or (0, True, True)
        self.first = own
        if not is_ahead_used and one.words.get(own - 1, ("",))[0] == "foot":
            self.first = own - one.words[own - 1][1]
        self.last = own + size
        behind = one.head(self.last)
        if behind is not None and not behind[1]:
            self.last += behind[0]
        self.ended = "done"
        try:
            told = self.play(0, len(self.lines))
            self.ended = "refused" if told == "no" else "done"
        except Beyond:
            self.ended = "beyond"

    def inside(self, address):
        return isinstance(address, int) and self.first <= address <= self.last

    def need(self, held):
        if not held:
            raise Beyond

    def place(self, name):
        """The address of a place of the stretch."""
        place = self.held[name]
        self.need(isinstance(place, int) and self.inside(place))
        return place

    def head_of(self, name):
        found = self.one.head(self.place(name))
        self.need(found is not None)
        return found

    def holds(self, words):
        if words[0] == "not":
            return not self.holds(words[1:])
        if words[0] == "used":
            return self.head_of(words[1])[1]
        if words[:2] == ["ahead", "used"]:
            return self.head_of(words[2])[2]
        if words[1:] == ["is", "bin"]:
            self.need(self.held[words[0]] is not None)
            return self.held[words[0]] == "bin"
        return super().holds(words)

    def play(self, at, end):
        while at < end:
            words = self.lines[at].split(" ")
            if words[0] in ("quit", "no"):
                return words[0]
            if words[0] == "if":
                first, behind, last = self.side_of(at)
                told = self.play(first, behind)
                if told:
                    return told
                at = last
            else:
                self.line(words)
            at += 1
        return None

    def link(self, name, which):
        """What a link tells: a place outside is a tuple with its address."""
        if self.held[name] == "bin":
            told = self.one.links[which]
        else:
            where = self.place(name) + (1 if which == "next" else 2)
            word = self.one.words.get(where, ("",))
            self.need(self.inside(where) and word[0] == which)
            told = word[1]
        return told if told == "bin" or self.inside(told) else ("outside", told)

    def line(self, words):
        if words[0] in "abc" and words[2] == "size":
            if words[3] == "ahead":
                where = self.place(words[4])
                word = self.one.words.get(where - 1, ("",))
                self.need(where != self.first and word[0] == "foot")
                self.worths[words[0]] = word[1]
            else:
                self.worths[words[0]] = self.head_of(words[3])[0]
        elif words[0] in "abc":
            self.worths[words[0]] = self.sum(words[2:])
        elif words[0] in "pqrs":
            self.held[words[0]] = self.place_for(words[2:])
        elif words[0] in ("next", "prev"):
            self.tie(words[0], words[1], words[3])
        else:
            self.write(words)

    def place_for(self, words):
        if words[0] in ("next", "prev"):
            self.need(self.held[words[1]] is not None)
            return self.link(words[1], words[0])
        place = self.held[words[0]]
        self.need(place is not None)
        if len(words) == 1:
            return place
        return place + (1 if words[1] == "+" else -1) * self.sum(words[2:]) if isinstance(place, int) else "lost"

    def tie(self, which, name, other):
        place, worth = self.held[name], self.held[other]
        self.need(place is not None and worth is not None and worth != "lost")
        self.need(not isinstance(worth, int) or self.inside(worth))
        told = worth[1] if isinstance(worth, tuple) else worth
        if place == "bin":
            self.one.links[which] = told
        elif isinstance(place, tuple):
            self.one.words[place[1] + (1 if which == "next" else 2)] = (which, told)
        else:
            where = self.place(name) + (1 if which == "next" else 2)
            self.need(self.inside(where))
            self.one.words[where] = (which, told)

    def write(self, words):
        heads = self.one.program.heads
        if words[0] == "head":
            where, size = self.place(words[1]), self.sum(words[3:-2])
            self.need(size >= 0)
            self.one.make(where, size, words[-2] == "used", words[-1] == "used")
        elif words[0] == "foot":
            size = self.sum(words[3:])
            where = self.place(words[1]) + size - 1
            self.need(size >= 1 and self.inside(where))
            self.one.words[where] = ("foot", size)
        elif words[0] == "size":
            _, is_used, is_ahead_used = self.head_of(words[1])
            size = self.sum(words[3:])
            self.need(size >= 0)
            self.one.make(self.place(words[1]), size, is_used, is_ahead_used)
        else:
            self.head_of(words[-1])
            kind = {"used": "use", "free": "free", "ahead used": "meet", "ahead free": "part"}[" ".join(words[:-1])]
            where = self.place(words[-1])
            self.one.words[where] = ("head", heads.read(kind, self.one.words[where][1]))


class ClassAgain(Lines):
    """A play of a class code on any number."""

    def __init__(self, code, rules, number):
        super().__init__(code.text, {"a": 0, "b": 0, "c": 0, "bin": 0, "last": rules.bins - 1, "size": number, "len": number})
        self.look = False
        self.refused = self.play(0, len(self.lines)) == "no"
        if not self.refused and not 0 <= self.worths["bin"] < rules.bins:
            raise Beyond
        self.bin = self.worths["bin"]

    def play(self, at, end):
        while at < end:
            words = self.lines[at].split(" ")
            if words[0] in ("quit", "no"):
                return words[0]
            if words[0] == "if":
                first, behind, last = self.side_of(at)
                told = self.play(first, behind)
                if told:
                    return told
                at = last
            elif words[0] == "look":
                self.look = True
            elif words[2] == "bits":
                worth = self.sum(words[3:])
                if worth < 0:
                    raise Beyond
                self.worths[words[0]] = len(f"{worth:b}") if worth else 0
            elif words[-2] in ("*", "//", ">>"):
                worth, by = self.sum(words[2:-2]), self.sum(words[-1:])
                if words[-2] == ">>" and not 0 <= by <= 999:
                    raise Beyond
                self.worths[words[0]] = {"*": lambda: worth * by, "//": lambda: worth // by, ">>": lambda: worth // 2 ** by}[words[-2]]()
            else:
                self.worths[words[0]] = self.sum(words[2:])
            at += 1
        return None


class DeedAgain(Again):
    """A play of a deed whose steps are played by an allocator."""

    def __init__(self, one, deed, own, n):
        self.one, self.given = one, own
        super().__init__(deed, None if own is None else (own["sort"], own["room"]), n, [])

    def piece(self, sort, room):
        made = super().piece(sort, room)
        if len(self.pieces) == 1 and self.given is not None:
            made.update(at=self.given["at"], page=self.given["page"])
            self.given = None
        return made

    def step(self, words):
        about = None if words[0] in ("take", "top", "slot") else self.need(words[1])
        if words[0] != "drop":
            amount = self.sum(words[2:])
            self.check(words[0], amount, about)
        elif about["sort"] != "place":
            raise self.beyond()
        else:
            amount = None
        outcome, room, at, page = getattr(self.one, "step_" + words[0])(amount, about)
        self.one.steps.append((words[0], outcome, room))
        old = None if about is None else about["room"]
        if not self.lets(words[0], amount, old, outcome, room):
            raise Stop(("deeds", words[0]))
        self.answers = [(outcome, room)]
        super().step(words)
        if outcome in ("found", "got", "last") or (words[0], outcome) == ("top", "grown"):
            self.pieces[-1].update(at=at, page=page)
        return outcome

    def beyond(self):
        from deedmakers import Beyond as DeedBeyond
        return DeedBeyond()

    def check(self, word, amount, about):
        """Whether a step is not beyond, ahead of its being played."""
        small = max(self.rules.slots, default=0)
        if amount < 1 or (word == "slot" and amount > small):
            raise self.beyond()
        if about is not None and (about["sort"] == "place" or (word == "cut" and amount > about["room"])):
            raise self.beyond()

    def lets(self, word, amount, old, outcome, room):
        """Whether a step can come out so."""
        if room is None:
            return True
        if room < self.rules.least or (room - self.rules.least) % self.rules.unit:
            return False
        if word == "drop":
            return room >= self.rules.page
        if word == "cut":
            return amount <= room < old
        return room >= amount and (word != "grow" or room >= old)

    def line(self, words):
        piece = self.held[words[1]] if words[0] in ("hang", "page", "hand") and words[1] != "none" else None
        super().line(words)
        told = None
        if words[0] == "hang":
            self.one.hang(piece)
        elif words[0] == "page":
            told = [slot for slot in self.rules.slots if slot >= self.sum_behind(words, piece)][0]
            self.one.make_page(piece, told)
        elif words[0] == "move":
            told = self.sum(words[2:])
            self.one.move(self.held["own"], self.held[words[1]], told)
        if words[0] in ("hang", "page", "move", "hand"):
            self.one.steps.append((words[0], None, told))

    def sum_behind(self, words, piece):
        """The sum of a line with page, whose piece is back by now."""
        piece["out"] = True
        found = self.sum(words[2:])
        piece["out"] = False
        return found


class AllocatorAgain:
    """An allocator: words are ("head", number), ("foot", size), ("next", place), ("map", page, k), ("user", name, k)."""

    def __init__(self, program):
        self.program = program
        self.words, self.size, self.links = {}, 0, {"next": "bin", "prev": "bin"}
        self.fence = program.tops[0].rules.fence
        self.rows = [[] for _ in range(program.bins.rules.bins)]
        self.sizes, self.bins, self.map = {}, {}, (0,) * program.bins.rules.words
        self.pages, self.made, self.calls, self.held, self.broken, self.lost_map = [], 0, 0, {}, None, False

    def head(self, address):
        word = self.words.get(address)
        if word is None or word[0] != "head":
            return None
        heads = self.program.heads
        return heads.read("size", word[1]), heads.read("used", word[1]) != 0, heads.read("ahead", word[1]) != 0

    def make(self, address, size, is_used, is_ahead_used):
        wide = self.program.heads.rules.wide
        self.words[address] = ("head", self.program.heads.word_of(size % 2 ** wide, int(is_used), int(is_ahead_used)))

    def walk(self):
        at, found, fence = 0, [], self.size - self.fence
        while self.size and at != fence:
            head = self.head(at)
            if head is None or head[0] == 0 or at + head[0] > fence:
                return found, at
            found.append((at, head[0], head[1]))
            at += head[0]
        return found, at

    def top(self):
        found, at = self.walk()
        return found[-1] if found and at == self.size - self.fence and not found[-1][2] else None

    # rows of bins

    def class_play(self, kind, number):
        bins = self.program.bins
        try:
            return ClassAgain(bins.hangs if kind == "hang" else bins.asks, bins.rules, number)
        except Beyond:
            raise Stop(("bins", kind)) from None

    def map_play(self, kind, number):
        maps = self.program.maps
        ended, told, self.map, roof = play_map_again(maps.rules, maps.code_for(kind), self.map, number)
        if ended == "beyond":
            raise Stop(("maps", kind))
        wide = maps.rules.wide
        owed = [sum(1 << bit for bit in range(wide) if at * wide + bit < len(self.rows) and self.rows[at * wide + bit])
                for at in range(maps.rules.words)]
        if list(self.map) != owed or roof != sum(1 << at for at, word in enumerate(owed) if word):
            self.lost_map = True
        return told if ended == "done" else None

    def follow(self):
        free = {address: size for address, size, is_used in self.walk()[0] if not is_used}
        for address in sorted(self.bins):
            if free.get(address) != self.sizes[address]:
                row = self.rows[self.bins.pop(address)]
                row.remove(address)
                if not row:
                    self.map_play("clear", [at for at, one in enumerate(self.rows) if one is row][0])
        for address in sorted(free):
            if address not in self.bins:
                number = self.class_play("hang", free[address]).bin
                self.bins[address], self.sizes[address] = number, free[address]
                self.rows[number].insert(0, address)
                if len(self.rows[number]) == 1:
                    self.map_play("mark", number)

    # steps

    def size_of(self, n):
        return self.program.rounding.size_for(n) if n < 2 ** self.program.heads.rules.wide else None

    def block(self, kind, address, want):
        code = self.program.blocks[("free", "take", "grow", "cut").index(kind)]
        ended = BlockAgain(self, code, address, want).ended
        if ended == "beyond":
            raise Stop(("blocks", kind))
        self.follow()
        return ended

    def block_size(self, address):
        return (self.head(address) or (0,))[0]

    def taken(self, address, good, bad):
        if self.block("take", address, self.block_size(address)) == "refused":
            return bad, None, None, None
        return good, self.block_size(address) - 1, address, None

    def step_take(self, n, about):
        size, none = self.size_of(n), ("none", None, None, None)
        if size is None:
            return none
        play = self.class_play("ask", n)
        if play.refused:
            return none
        found = self.map_play("find", play.bin)
        if play.look and found == play.bin:
            able = [address for address in self.rows[found] if self.sizes[address] >= size]
            if able:
                return self.taken(able[0], "found", "none")
            if found == len(self.rows) - 1:
                return none
            found = self.map_play("find", found + 1)
        if found is None or not 0 <= found < len(self.rows) or not self.rows[found]:
            return none
        return self.taken(self.rows[found][0], "found", "none")

    def step_top(self, n, about):
        size, shut = self.size_of(n), ("shut", None, None, None)
        if size is None:
            return shut
        block = self.top()
        if block is None or block[1] < size:
            if self.end_play(0, (self.size, block[1] if block else 0, size)) == "refused" or self.top() is None:
                return shut
            block = self.top()
        return self.taken(block[0], "grown", "shut")

    def end_play(self, which, case):
        code = self.program.tops[which]
        play = TopAgain(code, case)
        if play.ended == "beyond":
            raise Stop(("top", code.kind))
        size, top = play.worths["size"], play.worths["top"]
        if (size, top) != case[:2]:
            self.write_end(size, top)
            self.follow()
        return play.ended

    def write_end(self, size, top):
        old = self.top()
        start = old[0] if old else max(0, self.size - self.fence)
        is_ahead_used = self.head(start)[2] if old else True
        links = [self.words.get(start + 1, ("",)), self.words.get(start + 2, ("",))] if old else None
        self.size = size
        self.words = {at: word for at, word in self.words.items() if at < max(size - self.fence, start)}
        if top:
            self.make(start, top, False, is_ahead_used)
            self.words[start + top - 1] = ("foot", top)
            if old is None:
                first = self.links["next"]
                links = [("next", first), ("prev", "bin")]
                if first == "bin":
                    self.links["prev"] = start
                else:
                    self.words[first + 2] = ("prev", start)
                self.links["next"] = start
            for at, word in enumerate(links):
                if word[0] == ("next", "prev")[at]:
                    self.words[start + 1 + at] = word
        elif old and links[0][0] == "next" and links[1][0] == "prev":
            for place, which, worth in ((links[1][1], "next", links[0][1]), (links[0][1], "prev", links[1][1])):
                if place == "bin":
                    self.links[which] = worth
                else:
                    self.words[place + (1 if which == "next" else 2)] = (which, worth)
        if size:
            self.make(size - self.fence, 0, True, not top and is_ahead_used)

    def resized(self, kind, words, n, piece):
        size, old = self.size_of(n), self.block_size(piece["at"])
        if size is not None and (size <= old if kind == "cut" else size > old):
            self.block(kind, piece["at"], size)
        now = self.block_size(piece["at"])
        return (words[1], None, None, None) if now == old else (words[0], now - 1, None, None)

    def step_cut(self, n, piece):
        return self.resized("cut", ("cut", "kept"), n, piece)

    def step_grow(self, n, piece):
        if n <= piece["room"]:
            return "grown", piece["room"], None, None
        return self.resized("grow", ("grown", "stuck"), n, piece)

    def step_slot(self, n, about):
        slot = [one for one in self.program.deeds[0].rules.slots if one >= n][0]
        for page in reversed(self.pages):
            if page["slot"] == slot and page["page"].is_listed:
                try:
                    at = page["page"].lend()
                except Broken:
                    raise Stop(("slabs", "take")) from None
                if at is not None:
                    return "got", None, page["at"] + at, page
        return "full", None, None, None

    def step_drop(self, n, piece):
        page = piece["page"]
        try:
            page["page"].bring(piece["at"] - page["at"])
        except Broken:
            raise Stop(("slabs", "back")) from None
        if not page["page"].is_dropped:
            return "more", None, None, None
        self.pages = [one for one in self.pages if one is not page]
        return "last", self.block_size(page["at"]) - 1, page["at"], None

    def hang(self, piece):
        self.block("free", piece["at"], None)
        block = self.top()
        self.end_play(1, (self.size, block[1] if block else 0))

    def make_page(self, piece, slot):
        slab = self.program.slabs[self.program.deeds[0].rules.slots.index(slot)]
        try:
            page = SlabPage(slab, self.block_size(piece["at"]))
        except BlockError:
            raise Stop(("slabs", "lay")) from None
        self.made += 1
        self.pages.append({"slot": slot, "at": piece["at"], "page": page, "number": self.made})
        for at in range(page.maps):
            self.words[piece["at"] + 1 + at] = ("map", self.made, at)

    def first(self, piece):
        return piece["at"] + (piece["sort"] == "block")

    def move(self, own, piece, many):
        code = self.program.move
        play = MovePlay(code, self.words, self.first(own), many, self.first(piece) - self.first(own))
        self.words = {at: word for at, word in play.words_behind().items() if word is not None}
        if play.ended == "beyond":
            raise Stop(("moves", code.kind))

    # calls

    def call(self, kind, name=None, n=None):
        """Makes a call: what it told, and its steps."""
        self.steps, self.calls = [], self.calls + 1
        number = self.calls - 1
        if kind != "ask" and self.held[name][0] is None:
            self.held.pop(name)
            return ("ok" if kind == "back" else "no"), ()
        deed = self.program.deeds[("ask", "back", "change").index(kind)]
        own = None if kind == "ask" else self.held[name][0]
        try:
            play = DeedAgain(self, deed, own, n)
        except Stop as stop:
            self.broken = stop.args[0]
            return None, tuple(self.steps)
        if play.ended == "beyond":
            self.broken = ("deeds", kind)
            return None, tuple(self.steps)
        if kind == "ask":
            if play.told == "ok":
                self.held[number] = [play.hand, n]
                self.write_words(number, 0)
        elif kind == "back" and play.told == "ok":
            self.held.pop(name)
        else:
            old = self.held[name][1]
            self.held[name][0] = play.hand
            if play.told == "ok":
                self.held[name][1] = n
                self.write_words(name, old)
        return play.told, tuple(self.steps)

    def write_words(self, name, start):
        piece, many = self.held[name]
        if piece is not None:
            for at in range(start, min(many, piece["room"])):
                self.words[self.first(piece) + at] = ("user", name, at)

    def read(self, name):
        piece, many = self.held[name]
        words = [self.words.get(self.first(piece) + at, ("",)) for at in range(many)] if piece else []
        return tuple([word[1:] if word[0] == "user" else None for word in words])

    def faults(self):
        rules, found = self.program.blocks[0].rules, []
        blocks, end = self.walk()
        was_used, free = True, {}
        for address, size, is_used in blocks:
            if size % rules.unit or size < rules.least or self.head(address)[2] != was_used or not (is_used or was_used):
                found.append(("heads", address))
            was_used = is_used
            if not is_used:
                free[address] = size
        if self.size and (end != self.size - self.fence or self.head(end) != (0, True, was_used)):
            found.append(("heads", end))
        found += [("foot", at) for at, size in free.items() if self.words.get(at + size - 1) != ("foot", size)]
        found += [] if self.has_ring(free) else [("ring",)]
        found += [("map",)] if self.lost_map else []
        found += sorted([("slab", page["at"]) for page in self.pages
                         if any(self.words.get(page["at"] + 1 + at) != ("map", page["number"], at) for at in range(page["page"].maps))])
        return tuple(found + self.held_faults(blocks))

    def has_ring(self, free):
        at, seen = "bin", []
        while True:
            word = self.words.get(at + 1, ("",)) if at != "bin" else ("next", self.links["next"])
            if word[0] != "next" or (word[1] != "bin" and word[1] not in free):
                return False
            back = self.words.get(word[1] + 2, ("",)) if word[1] != "bin" else ("prev", self.links["prev"])
            if back != ("prev", at):
                return False
            at = word[1]
            if at == "bin":
                return sorted(seen) == sorted(free)
            if at in seen:
                return False
            seen.append(at)

    def held_faults(self, blocks):
        held = sorted(self.held)
        found = [("data", name) for name in held if self.held[name][0] is None or self.held[name][0]["room"] < self.held[name][1]
                 or self.read(name) != tuple((name, at) for at in range(self.held[name][1]))]
        rooms = {name: range(self.first(self.held[name][0]), self.first(self.held[name][0]) + self.held[name][0]["room"])
                 for name in held if self.held[name][0]}
        found += [("meet", one, two) for one in sorted(rooms) for two in sorted(rooms)
                  if one < two and (rooms[one].start in rooms[two] or rooms[two].start in rooms[one])]
        pieces = [self.held[name][0] for name in held if self.held[name][0]]
        owned = {piece["at"] for piece in pieces if piece["sort"] == "block"} | {page["at"] for page in self.pages}
        lost = [at for at, _, is_used in blocks if is_used and at not in owned]
        starts = {self.first(piece) for piece in pieces}
        for page in self.pages:
            slab = page["page"]
            bits = [bit for at, word in enumerate(slab.map_words()) for bit in range(at * slab.slab.rules.wide, (at + 1) * slab.slab.rules.wide)
                    if word >> (bit - at * slab.slab.rules.wide) & 1 and bit < slab.many]
            lost += [at for at in [page["at"] + 1 + slab.maps + slab.slab.rules.each * bit for bit in bits] if at not in starts]
        return found + [("lost", at) for at in sorted(lost)]
