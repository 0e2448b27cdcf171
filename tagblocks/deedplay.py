"""Plays of deeds on pieces and lengths that are known, with the outcomes of the steps as they are told."""

from tagblocks.deedjudge import DEED_PROMISES, DeedJudge
from tagblocks.deedmachine import DeedMachine, Outcome, HeldPiece, is_fitting, known
from tagblocks.errors import BadCase, BadOutcomes
from tagblocks.forms import plain
from tagblocks.opennumbers import OpenNumbers
from tagblocks.texts import is_from


class ToldWorld:
    """A world in which steps come out as some answers tell."""

    def __init__(self, answers):
        self.answers = list(answers)
        self.at = 0

    def come_out(self, machine, step, piece, amount, slot):
        """How a step comes out: the next answer."""
        room = None if piece is None else known(piece.room)
        told = self.answers[self.at] if self.at < len(self.answers) else None
        self.at += 1
        if not is_fitting(machine.rules, step[0], room, known(amount), told):
            raise BadOutcomes(step[0])
        return Outcome(told[0], None if told[1] is None else plain(told[1]))

    def act(self, machine, step, piece, amount, other):
        """A line without outcomes needs nothing of this world."""
        return True


def known_numbers():
    """Numbers of which none is open."""
    return OpenNumbers({}, {}, [], [], None)


def told_piece(piece):
    """The pair that tells a piece with a known room, None for none."""
    return None if piece is None else (piece.sort_name, known(piece.room))


def has_broken(judge, promise):
    """Whether a play with known numbers breaks a promise."""
    for rows in judge.breaches_of(promise):
        if not [row for row in rows if known(row) < 0]:
            return True
    return False


class DeedPlay:
    """A play of a deed that is over, and what it broke."""

    def __init__(self, deed, own, n, answers):
        piece = None if own is None else HeldPiece(own[0], plain(own[1]), None, 0)
        machine = DeedMachine(deed, piece, None if n is None else plain(n), known_numbers(), ToldWorld(answers))
        self.ended = machine.ended
        self.told = machine.told
        self.taken = tuple([(line, word, known(room)) for line, word, room in machine.taken])
        self.hand = told_piece(machine.hand)
        self.honest = machine.is_honest
        self.broken = ()
        if self.honest:
            judge = DeedJudge(deed, machine)
            self.broken = tuple([promise for promise in DEED_PROMISES if has_broken(judge, promise)])


def is_deed_case(deed, own, n):
    """Whether values tell a piece and a length that a deed can be handed."""
    kind = deed.code.kind
    if kind == "ask":
        return own is None and is_from(n, 1)
    if not deed.rules.is_piece(own):
        return False
    return n is None if kind == "back" else is_from(n, 1)


def play_deed(deed, own, n, answers):
    """The play of a deed on a piece and a length, with an answer for each step that it comes to."""
    if not is_deed_case(deed, own, n):
        raise BadCase((own, n))
    return DeedPlay(deed, own, n, answers)
