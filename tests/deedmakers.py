"""Deeds that are right, deeds with slips, and a second way to play deeds, which reads their lines one by one."""

from tagblocks.deedcodes import Deed, DeedCode
from tagblocks.errors import BlockError

OUTCOMES = {"take": ("found", "none"), "top": ("grown", "shut"), "slot": ("got", "full"), "cut": ("cut", "kept"),
            "grow": ("grown", "stuck"), "drop": ("more", "last")}
PROMISES = ("inside", "whole", "owed", "back", "told", "close")
SMALL = ("if n <= small\nslot p n\non full\ntake q page\non none\ntop q page\non shut\nquit no\nend\nend\npage q n\n"
         "slot p n\nend\nelse\n")
LARGE = "take p n\non none\ntop p n\non shut\nquit no\nend\nend\ncut p n\nend\n"
BY_SORT = "if own is place\ndrop own q\non last\nhang q\nend\nelse\nhang own\nend\n"
GOOD = {
    "ask": SMALL + LARGE + "hand p",
    "back": BY_SORT + "hand none",
    "change": "if n <= own.room\nquit ok\nend\n" + SMALL + LARGE + "move p own.room\nhand p\n" + BY_SORT[:-1],
}
GROWING = ("if n <= own.room\nif own is block\ncut own n\nend\nquit ok\nend\nif own is block\ngrow own n\non grown\n"
           "cut own n\nquit ok\nend\nend\n" + SMALL + LARGE + "move p own.room\nhand p\n" + BY_SORT[:-1])


class Beyond(Exception):
    """A play that is beyond."""


class Wanted(Exception):
    """A step for which there is no answer: all honest ones, with rooms up to a bound."""


def first_words(many):
    """The numbers of the first words of a piece; of very many only the first ones are looked at."""
    return set(range(min(many, 10 ** 5)))


class Again:
    """A play of a deed: pieces are dicts, own's words are told by sets of numbers."""

    def __init__(self, deed, own, n, answers, bound=0):
        self.deed, self.rules = deed, deed.rules
        self.lines = deed.code.text.split("\n") if deed.code.text else []
        self.n, self.answers, self.bound = n, list(answers), bound
        self.held = {"p": None, "q": None, "own": None}
        self.numbers = {"a": 0, "b": 0}
        self.pieces, self.fresh, self.cuts = [], set(), {}
        self.failed, self.honest, self.told, self.ended = False, True, None, "done"
        if own is not None:
            self.held["own"] = self.piece(*own)
            self.held["own"]["words"] = first_words(own[1])
        self.first = own
        self.hand = self.held["own"]
        try:
            self.play()
        except Beyond:
            self.ended = "beyond"

    def piece(self, sort, room):
        made = {"sort": sort, "room": room, "out": True, "words": set(), "cut": None}
        self.pieces.append(made)
        return made

    def need(self, name):
        piece = self.held[name]
        if piece is None or not piece["out"]:
            raise Beyond
        return piece

    def worth(self, word):
        if word.isdigit():
            return int(word)
        if word.endswith(".room"):
            return self.need(word[:-5])["room"]
        return {"n": self.n, "small": max(self.rules.slots, default=0), "page": self.rules.page, "least": self.rules.least,
                "a": self.numbers["a"], "b": self.numbers["b"]}[word]

    def sum(self, words):
        worths = [self.worth(word) for word in words[::2]]
        return sum(-worth if sign == "-" else worth for sign, worth in zip(["+"] + words[1::2], worths))

    def holds(self, words):
        if words[0] == "not":
            return not self.holds(words[1:])
        if words[2] in ("place", "block"):
            return self.need(words[0])["sort"] == words[2]
        one, other = self.worth(words[0]), self.worth(words[2])
        return {"<": one < other, "<=": one <= other, "is": one == other}[words[1]]

    def end_of(self, at):
        depth = 0
        while True:
            at += 1
            word = self.lines[at].split(" ")[0]
            if depth == 0 and word in ("else", "end"):
                return at
            depth += {"if": 1, "on": 1, "end": -1}.get(word, 0)

    def block_end(self, at):
        at = self.end_of(at)
        return self.end_of(at) if self.lines[at] == "else" else at

    def play(self):
        if not self.run(0, len(self.lines)):
            self.told = "ok"

    def run(self, at, end):
        """Plays the lines from one to another one; whether a quit was met."""
        while at < end:
            words = self.lines[at].split(" ")
            if words[0] == "quit":
                self.told = words[1]
                return True
            if words[0] == "if":
                middle, last = self.end_of(at), self.block_end(at)
                # The parts are asked one after the other.
                if all(self.holds(part.split(" ")) for part in " ".join(words[1:]).split(" and ")):
                    done = self.run(at + 1, middle)
                else:
                    done = self.run(min(middle + 1, last), last)
                if done:
                    return True
                at = last + 1
            elif words[0] in OUTCOMES:
                outcome = self.step(words)
                at += 1
                chosen = None
                while at < end and self.lines[at].startswith("on "):
                    last = self.block_end(at)
                    if self.lines[at] == "on " + outcome:
                        chosen = (at + 1, last)
                    at = last + 1
                if chosen is not None and self.run(*chosen):
                    return True
            else:
                self.line(words)
                at += 1
        return False

    def answer(self, step, able):
        """The next answer; able has for each honest outcome a test of rooms, or None."""
        if not self.answers:
            options = []
            for outcome, test in able.items():
                rooms = range(self.rules.least, self.bound + 1, self.rules.unit)
                options += [(outcome, None)] if test is None else [(outcome, room) for room in rooms if test(room)]
            raise Wanted(options)
        return self.answers.pop(0)

    def step(self, words):
        if words[0] == "drop":
            piece = self.need(words[1])
            if piece["sort"] != "place":
                raise Beyond
            outcome, room = self.answer("drop", {"more": None, "last": lambda room: room >= self.rules.page})
            piece["out"] = False
            self.held[words[2]] = self.piece("block", room) if outcome == "last" else None
            return outcome
        amount = self.sum(words[2:])
        if amount < 1:
            raise Beyond
        if words[0] in ("take", "top"):
            good, bad = OUTCOMES[words[0]]
            outcome, room = self.answer(words[0], {good: lambda room: room >= amount, bad: None})
            self.failed |= outcome == bad
            self.held[words[1]] = self.piece("block", room) if outcome == good else None
        elif words[0] == "slot":
            classes = [slot for slot in self.rules.slots if slot >= amount]
            if not classes:
                raise Beyond
            able = {"got": None} if classes[0] in self.fresh else {"got": None, "full": None}
            outcome, _ = self.answer("slot", able)
            if outcome == "full":
                self.failed = True
                self.honest &= classes[0] not in self.fresh
                self.held[words[1]] = None
            else:
                self.fresh.discard(classes[0])
                self.held[words[1]] = self.piece("place", classes[0])
        else:
            return self.change_room(words, amount)
        return outcome

    def change_room(self, words, amount):
        piece = self.need(words[1])
        if piece["sort"] == "place":
            raise Beyond
        old = piece["room"]
        if words[0] == "cut":
            if amount > old:
                raise Beyond
            outcome, room = self.answer("cut", {"cut": lambda room: amount <= room < old, "kept": None})
            piece["cut"] = amount
            if outcome == "cut":
                piece["words"] = {word for word in piece["words"] if word < room}
                piece["room"] = room
            return outcome
        able = {"grown": lambda room: room >= max(amount, old)}
        if amount > old:
            able["stuck"] = None
        outcome, room = self.answer("grow", able)
        if outcome == "grown":
            piece["room"] = room
        else:
            self.failed = True
            self.honest &= amount > old
        return outcome

    def line(self, words):
        if words[0] in ("hang", "page"):
            piece = self.need(words[1])
            if piece["sort"] == "place":
                raise Beyond
            if words[0] == "page":
                amount = self.sum(words[2:])
                classes = [slot for slot in self.rules.slots if slot >= amount]
                if amount < 1 or not classes or piece["room"] < self.rules.page:
                    raise Beyond
                self.fresh.add(classes[0])
            piece["out"] = False
        elif words[0] == "move":
            own, piece, amount = self.need("own"), self.need(words[1]), self.sum(words[2:])
            if amount < 0 or amount > own["room"] or amount > piece["room"]:
                raise Beyond
            piece["words"] = {word for word in own["words"] if word < amount}
        elif words[0] == "hand":
            self.hand = None if words[1] == "none" else self.need(words[1])
        elif words[0] in "pq":
            self.held[words[0]] = self.held[words[2]]
        else:
            self.numbers[words[0]] = self.sum(words[2:])

    def broken(self):
        """The promises that the play breaks, by the words of the document."""
        if not self.honest:
            return ()
        if self.ended == "beyond":
            return ("inside",)
        own, hand, kind = self.held["own"], self.hand, self.deed.code.kind
        found = []
        if any(piece["out"] != (piece is hand) for piece in self.pieces):
            found.append("whole")
        if self.told == "ok":
            if kind == "back":
                owed = hand is None
            elif hand is None or hand["room"] < self.n:
                owed = False
            else:
                owed = kind == "ask" or set(range(min(self.n, self.first[1]))) <= hand["words"]
            if not owed:
                found.append("owed")
            if kind != "back" and hand is not None and hand["sort"] == "block":
                if hand["cut"] is None or hand["cut"] > self.n + self.deed.waste:
                    found.append("close")
        else:
            if kind == "ask":
                kept = hand is None
            else:
                kept = hand is own and own["room"] >= self.first[1] and own["words"] >= first_words(self.first[1])
            if not kept:
                found.append("back")
            if not self.failed:
                found.append("told")
        return tuple([promise for promise in PROMISES if promise in found])


def all_plays(deed, own, n, bound):
    """All honest plays with rooms up to a bound, with their answers."""
    waiting = [[]]
    while waiting:
        answers = waiting.pop()
        try:
            play = Again(deed, own, n, answers, bound)
        except Wanted as wanted:
            waiting += [answers + [option] for option in wanted.args[0]]
            continue
        if play.honest:
            yield play, answers


class DeedChance:
    """Deeds with slips, by chance."""

    def __init__(self, chance):
        self.random = chance

    def names(self, kind):
        return ["small", "page", "least", "a", "b", "p.room", "q.room"] + ["n", "n", "n"] * (kind != "back") + [
            "own.room"] * (kind != "ask")

    def terms(self, kind):
        names = self.random.sample(sorted(set(self.names(kind))), 2)
        names[0] = self.random.choice(self.names(kind))
        if names[0] == names[1]:
            return names[0]
        return self.random.choice([names[0], f"{names[0]} + {self.random.randint(0, 3)}", f"{names[0]} - {names[1]}",
                                   f"{names[0]} - {self.random.randint(0, 2)}", str(self.random.randint(0, 5)),
                                   f"{names[0]} + {names[1]} - 1"])

    def test(self, kind):
        held = ["p", "q"] + ["own"] * (kind != "ask")
        return self.random.choice([f"{self.random.choice(held)} is {self.random.choice(['place', 'block'])}",
                                   f"{self.random.choice(self.names(kind))} < {self.random.randint(1, 6)}",
                                   f"not {self.random.choice(self.names(kind))} <= {self.random.choice(['a', '2', '3'])}"])

    def line(self, kind):
        held = ["p", "q"] + ["own", "own"] * (kind != "ask")
        one, two = self.random.choice(held), self.random.choice("pq")
        lines = [f"take {two} {self.terms(kind)}", f"slot {two} {self.terms(kind)}", f"cut {one} {self.terms(kind)}",
                 f"grow {one} {self.terms(kind)}", f"drop {one} {two}", f"hang {one}", f"page {one} {self.terms(kind)}",
                 f"hand {one}", "hand none", "p = q", "q = p", f"a = {self.terms(kind)}", "quit ok", "quit no",
                 f"top {two} {self.terms(kind)}"] + [f"move {two} {self.terms(kind)}"] * (kind != "ask")
        return self.random.choice(lines)

    def code(self, kind, text):
        """The text with a few lines changed, left out or put in."""
        while True:
            lines = text.split("\n")
            for _ in range(self.random.choice([1, 1, 2, 3])):
                at = self.random.randrange(len(lines))
                sort = self.random.randrange(4)
                if lines[at].startswith("if ") and sort < 2:
                    lines[at] = "if " + self.test(kind)
                elif lines[at].split(" ")[0] in ("if", "on", "end", "else") or sort == 3:
                    lines.insert(at, self.line(kind))
                elif sort == 0:
                    lines.pop(at)
                elif sort == 1 and lines[at].split(" ")[0] in ("take", "top", "slot", "cut", "page", "move", "grow"):
                    lines[at] = " ".join(lines[at].split(" ")[:2]) + " " + self.terms(kind)
                else:
                    lines[at] = self.line(kind)
            try:
                return DeedCode(kind, "\n".join(lines))
            except BlockError:
                continue
