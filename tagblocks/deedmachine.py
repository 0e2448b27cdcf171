"""The machine that plays deeds: registers, pieces, and who has them. Numbers are forms, so that they may be open."""

from tagblocks.deedlines import OUTCOMES, ROOMS
from tagblocks.forms import plain, plus
from tagblocks.runs import compared, sum_of, test_holds


class HeldPiece:
    """A place or a block: its room, whether it is out, where it is, and how many of its first words are own's.

    words has some numbers, the least of which tells that; none of them for no words. cut_to is the sum of its last cut
    in this play, or None; number tells it from the other pieces of the play.
    """

    def __init__(self, sort, room, at, number):
        self.sort_name = sort
        self.number = number
        self.room = room
        self.at = at
        self.is_out = True
        self.words = []
        self.cut_to = None


class Outcome:
    """How a step came out: the word, the room that was told, or None, and where what was told is, or None."""

    def __init__(self, word, room=None, at=None):
        self.word = word
        self.room = room
        self.at = at


class DeedMachine:
    """A play of a deed in a world that tells how steps come out, and in which hang, page and move are done.

    ended is "done", "beyond" or "stopped", if the world ended the play; told is "ok" or "no"; taken has for each step
    that was played its line, and how it came out. made has the classes of pages of which no place was got since.
    """

    def __init__(self, deed, own, n, numbers, world):
        self.rules = deed.rules
        self.outline = deed.code.outline
        self.numbers = numbers
        self.world = world
        self.registers = {"own": own, "p": None, "q": None}
        self.own = own
        self.start_room = None if own is None else own.room
        self.hand = own
        self.worths = {"n": n, "small": plain(deed.rules.small()), "page": plain(deed.rules.page),
                       "least": plain(deed.rules.least), "a": plain(0), "b": plain(0)}
        self.pieces = [] if own is None else [own]
        self.made = {}
        self.taken = []
        self.has_failed = False
        self.is_honest = True
        self.ended = "done"
        self.told = None
        if own is not None:
            own.words = [own.room]
        self.run()

    def run(self):
        """Plays the lines."""
        line = 1
        while line is not None and line <= self.outline.many_lines():
            step = self.outline.step_at(line)
            if step[0] == "quit":
                self.told = step[1]
                return
            line = self.line_behind(line, step)
        if line is None:
            self.ended = "stopped" if self.ended == "stopped" else "beyond"
        else:
            self.told = "ok"

    def line_behind(self, line, step):
        """Plays a line, and tells the next one; None if it is beyond, or the world ended the play."""
        if step[0] == "if":
            held = test_holds(step[1], self)
            if held is None:
                return None
            return line + 1 if held else self.outline.target_at(line)
        if step[0] in OUTCOMES:
            told = self.play_step(line, step)
            return None if told is None else self.outline.line_for(line, told.word)
        if step[0] not in ("else", "end") and not self.play_line(step):
            return None
        return self.outline.line_behind(line)

    def piece_in(self, name):
        """The piece that a register has, if it is out, else None."""
        piece = self.registers[name]
        return piece if piece is not None and piece.is_out else None

    def block_in(self, name):
        """The piece that a register has, if it is out and a block, else None."""
        piece = self.piece_in(name)
        return piece if piece is not None and piece.sort_name == "block" else None

    def has_rooms(self, names):
        """Whether all registers have pieces for whose rooms some names stand."""
        for name in names:
            if isinstance(name, str) and name in ROOMS:
                piece = self.piece_in(ROOMS[name])
                if piece is None:
                    return False
                self.worths[name] = piece.room
        return True

    def reckoned(self, terms):
        """What a sum comes to, or None if it needs the room of a piece that is not there."""
        if not self.has_rooms([term for _, term in terms]):
            return None
        return sum_of(terms, self.worths, self.numbers)

    def part_holds(self, part):
        """Whether a part of a test holds; None if it is beyond."""
        if part[0] == "sort":
            piece = self.piece_in(part[1])
            return None if piece is None else piece.sort_name == part[2]
        return compared(part, self.worths, self.numbers) if self.has_rooms(part[1:]) else None

    def is_positive(self, amount):
        """Whether a sum came to a number from 1 on."""
        return amount is not None and self.numbers.below(plain(0), amount)

    def class_of(self, amount):
        """The room of the class of a number, None if it is above small."""
        for slot in self.rules.slots:
            if not self.numbers.below(plain(slot), amount):
                return slot
        return None

    def add_piece(self, sort, told):
        """A piece that a step told."""
        piece = HeldPiece(sort, told.room, told.at, len(self.pieces))
        self.pieces.append(piece)
        return piece

    def step_fits(self, step):
        """What a step is about, a pair of a piece and a sum, or None if it is beyond."""
        if step[0] == "drop":
            piece = self.piece_in(step[1])
            return None if piece is None or piece.sort_name != "place" else (piece, None)
        amount = self.reckoned(step[2])
        if not self.is_positive(amount):
            return None
        if step[0] in ("take", "top", "slot"):
            if step[0] == "slot" and self.numbers.below(self.worths["small"], amount):
                return None
            return (None, amount)
        piece = self.block_in(step[1])
        if piece is None or (step[0] == "cut" and self.numbers.below(piece.room, amount)):
            return None
        return (piece, amount)

    def play_step(self, line, step):
        """Plays a step; how it came out, or None if it is beyond or the world ended the play."""
        about = self.step_fits(step)
        if about is None:
            return None
        piece, amount = about
        slot = self.class_of(amount) if step[0] == "slot" else None
        told = self.world.come_out(self, step, piece, amount, slot)
        if told is None:
            self.ended = "stopped"
            return None
        self.taken.append((line, told.word, told.room))
        self.has_failed = self.has_failed or told.word in ("none", "shut", "full", "stuck")
        if step[0] in ("take", "top", "slot"):
            self.registers[step[1]] = self.add_piece("block", told) if told.room is not None else None
            if slot is not None:
                self.note_slot(step[1], slot, told)
        elif step[0] == "cut":
            self.note_cut(piece, amount, told)
        elif step[0] == "grow":
            self.note_grow(piece, amount, told)
        else:
            piece.is_out = False
            self.registers[step[2]] = self.add_piece("block", told) if told.word == "last" else None
        return told

    def note_slot(self, name, slot, told):
        """Notes how a step with slot came out."""
        if told.word == "full":
            self.is_honest = self.is_honest and slot not in self.made
        else:
            self.registers[name] = self.add_piece("place", Outcome(told.word, plain(slot), told.at))
            self.made.pop(slot, None)

    def note_cut(self, piece, amount, told):
        """Notes how a step with cut came out."""
        piece.cut_to = amount
        if told.word == "cut":
            piece.room = told.room
            piece.words = [*piece.words, told.room] if piece.words else []

    def note_grow(self, piece, amount, told):
        """Notes how a step with grow came out."""
        if told.word == "grown":
            piece.room = told.room
        elif not self.numbers.below(piece.room, amount):
            self.is_honest = False

    def play_line(self, step):
        """Plays a line that is no step; whether it is not beyond, and the world did not end the play."""
        if step[0] == "set":
            amount = self.reckoned(step[2])
            if amount is not None:
                self.worths[step[1]] = amount
            return amount is not None
        if step[0] == "copy":
            self.registers[step[1]] = self.registers[step[2]]
            return True
        if step[0] == "hand":
            return self.play_hand(step[1])
        if step[0] == "move":
            return self.play_move(step)
        piece = self.block_in(step[1])
        if piece is None:
            return False
        if step[0] == "page":
            return self.play_page(step, piece)
        piece.is_out = False
        return self.is_done(step, piece, None, None)

    def is_done(self, step, piece, amount, other):
        """Lets the world do a line; whether it did not end the play."""
        if self.world.act(self, step, piece, amount, other):
            return True
        self.ended = "stopped"
        return False

    def play_hand(self, name):
        """Plays a line that gives the user a piece, or none."""
        piece = None if name == "none" else self.piece_in(name)
        if piece is None and name != "none":
            return False
        self.hand = piece
        return self.is_done(("hand",), piece, None, None)

    def play_page(self, step, piece):
        """Plays a line with page."""
        amount = self.reckoned(step[2])
        if not self.is_positive(amount) or self.numbers.below(self.worths["small"], amount):
            return False
        if self.numbers.below(piece.room, self.worths["page"]):
            return False
        slot = self.class_of(amount)
        self.made[slot] = True
        piece.is_out = False
        return self.is_done(step, piece, plain(slot), None)

    def play_move(self, step):
        """Plays a line with move: own's words lie in the piece then, as far as own had them."""
        own, piece = self.piece_in("own"), self.piece_in(step[1])
        amount = self.reckoned(step[2])
        if own is None or piece is None or amount is None or self.numbers.below(amount, plain(0)):
            return False
        if self.numbers.below(own.room, amount) or self.numbers.below(piece.room, amount):
            return False
        piece.words = [*own.words, amount]
        return self.is_done(step, piece, amount, own)


def is_fitting(rules, step, piece_room, amount, told):
    """Whether a step with known numbers can come out so, by the rooms that it tells."""
    if not isinstance(told, tuple) or len(told) != 2 or not isinstance(told[0], str):
        return False
    word, room = told
    if word not in OUTCOMES[step]:
        return False
    if word in ("none", "shut", "full", "got", "kept", "stuck", "more"):
        return room is None
    if not rules.is_block_room(room):
        return False
    if step == "drop":
        return room >= rules.page
    if step == "cut":
        return amount <= room < piece_room
    return room >= amount and (step != "grow" or room >= piece_room)


def known(form):
    """The number that a form without names is."""
    return None if form is None else plus(form, 1, plain(0))[0]
