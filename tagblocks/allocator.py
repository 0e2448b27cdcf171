"""Allocators, which play a program on the words of a memory."""

from tagblocks.allocatorfaults import (data_faults, foot_faults, head_faults, lost_faults, meeting_faults, ring_faults,
                                       slab_faults)
from tagblocks.allocatorworld import World
from tagblocks.deedmachine import DeedMachine, HeldPiece, known
from tagblocks.deedplay import known_numbers
from tagblocks.errors import BadLength, BadName, Broken
from tagblocks.forms import plain
from tagblocks.headrules import is_between
from tagblocks.texts import is_whole

MOST_LENGTH = 4096
DEED_PARTS = ("ask", "back", "change")


class CallTold:
    """What a call told, the steps that were played for it, and its number."""

    def __init__(self, told, steps, number):
        self.told = told
        self.steps = tuple(steps)
        self.number = number


class Holding:
    """What the user has under a name: a piece, or None, and how many words were asked for."""

    def __init__(self, piece, many):
        self.piece = piece
        self.many = many


class Allocator:
    """A program that is played: what stands in memory, what the user has, and how many calls were made."""

    def __init__(self, program):
        self.program = program
        self.world = World(program)
        self.held = {}
        self.size = 0
        self.calls = 0
        self.broken = None

    def ask(self, n):
        """Asks for a number of words."""
        self._check_length(n)
        self._check_broken()
        machine, told = self._play("ask", None, n)
        if told.told == "ok":
            self.held[told.number] = Holding(machine.hand, n)
            self._write_words(told.number, 0)
        return told

    def give_back(self, name):
        """Gives back what the user has under a name."""
        self._check_name(name)
        self._check_broken()
        held = self.held[name]
        if held.piece is None:
            self.held.pop(name)
            return self._count("ok", [])
        machine, told = self._play("back", held.piece, None)
        if told.told == "ok":
            self.held.pop(name)
        elif told.told == "no":
            held.piece = machine.hand
        return told

    def change(self, name, n):
        """Asks for another number of words under a name."""
        self._check_name(name)
        self._check_length(n)
        self._check_broken()
        held = self.held[name]
        if held.piece is None:
            self.held.pop(name)
            return self._count("no", [])
        machine, told = self._play("change", held.piece, n)
        if told.told is not None:
            held.piece = machine.hand
        if told.told == "ok":
            many = held.many
            held.many = n
            self._write_words(name, many)
        return told

    def _check_name(self, name):
        """Raises BadName for a value that is no held name."""
        if not is_whole(name) or name not in self.held:
            raise BadName(name)

    def _check_length(self, n):
        """Raises BadLength for a value that is no length."""
        if not is_between(n, 1, MOST_LENGTH):
            raise BadLength(n)

    def _check_broken(self):
        """Raises Broken if the allocator is broken."""
        if self.broken is not None:
            raise Broken(self.broken[0])

    def _count(self, told, steps):
        """Counts a call, and tells what it told."""
        self.calls += 1
        return CallTold(told, steps, self.calls - 1)

    def _play(self, kind, piece, n):
        """Plays a deed for a call: its machine, and what the call tells."""
        world = self.world
        world.steps = []
        deed = self.program.deeds[DEED_PARTS.index(kind)]
        own = None if piece is None else HeldPiece(piece.sort_name, piece.room, piece.at, 0)
        machine = DeedMachine(deed, own, None if n is None else plain(n), known_numbers(), world)
        if machine.ended == "beyond":
            self.broken = ("deeds", kind)
        elif machine.ended == "stopped":
            self.broken = world.broken
        self.size = world.memory.size
        return machine, self._count(machine.told, world.steps)

    def _write_words(self, name, start):
        """Lets the user write the words of a name from one on, as far as there is room."""
        held = self.held[name]
        if held.piece is not None:
            first = self.world.first_word(held.piece)
            for at in range(start, min(held.many, known(held.piece.room))):
                self.world.memory.put(first + at, ("user", name, at))

    def held_names(self):
        """The names, ascending."""
        return tuple(sorted(self.held))

    def address_of(self, name):
        """The address of the first word of what the user has under a name, or None."""
        self._check_name(name)
        piece = self.held[name].piece
        return None if piece is None else self.world.first_word(piece)

    def read(self, name):
        """For each word that was asked for under a name the user's word that stands there, or None."""
        first = self.address_of(name)
        if first is None:
            return ()
        words = [self.world.memory.words.get(first + at) for at in range(self.held[name].many)]
        return tuple([(word[1], word[2]) if word is not None and word[0] == "user" else None for word in words])

    def block_rows(self):
        """The blocks that a walk from word 0 on meets: triples of an address, a size, and whether it is used."""
        return tuple(self.world.memory.walk()[0])

    def bin_rows(self):
        """The rows of all bins."""
        return tuple([tuple(row) for row in self.world.rows.rows])

    def faults(self):
        """All faults, kind by kind."""
        memory, pages = self.world.memory, self.world.pages
        held = []
        owned, starts = {}, {}
        for name in self.held_names():
            piece, start = self.held[name].piece, self.address_of(name)
            held.append((name, self.held[name].many, start, None if piece is None else known(piece.room)))
            if piece is not None:
                starts[start] = True
                if piece.sort_name == "block":
                    owned[piece.at[0]] = True
        found = head_faults(memory, self.program.blocks[0].rules) + foot_faults(memory) + ring_faults(memory)
        if self.world.rows.has_lost:
            found.append(("map",))
        found = found + slab_faults(memory, pages) + data_faults(memory, held) + meeting_faults(held)
        return tuple(found + lost_faults(memory, pages, owned, starts))
