"""Programs of right parts for some rules, and the same with a part that has a slip."""

from tagblocks.bincodes import BinCode, BinMaps, Bins, MapCode
from tagblocks.binrules import BinRules
from tagblocks.blockcodes import BlockCode
from tagblocks.blockrules import BlockRules
from tagblocks.deedcodes import Deed, DeedCode
from tagblocks.deedrules import DeedRules
from tagblocks.headcodes import HeadCode
from tagblocks.headrules import HeadRules
from tagblocks.heads import Heads, Rounding
from tagblocks.movecodes import MoveCode
from tagblocks.moverules import MoveRules
from tagblocks.program import Program
from tagblocks.slabcodes import SlabCode
from tagblocks.slabrules import SlabRules
from tagblocks.slabs import Slab
from tagblocks.topcodes import TopCode
from tagblocks.toprules import TopRules
from test_binverdicts import good_maps
from topmakers import LAZY, WIDEN

OUT = "q = next X\nr = prev X\nnext r = q\nprev q = r\n"
HANG = "q = next bin\nnext s = q\nprev s = bin\nprev q = s\nnext bin = s"
CUTTING = "head s = b free used\nfoot s = b\n" + HANG
FREE = ("a = size own\np = own + a\nif not used p\n" + OUT.replace("X", "p") + "b = size p\na = a + b\nend\ns = own\n"
        "if not ahead used own\nb = size ahead own\ns = own - b\n" + OUT.replace("X", "s") + "a = a + b\nend\n"
        "head s = a free used\nfoot s = a\np = s + a\nahead free p\n" + HANG)
TAKE = ("a = size own\nif a < want\nno\nend\n" + OUT.replace("X", "own") + "b = a - want\nif b < least\nused own\n"
        "p = own + a\nahead used p\nelse\nhead own = want used used\ns = own + want\n" + CUTTING + "\nend")
GROW = ("a = size own\np = own + a\nif used p\nno\nend\nb = size p\nb = a + b\nif b < want\nno\nend\n" + OUT.replace("X", "p")
        + "c = b - want\ns = own + b\nif c < least\nsize own = b\nahead used s\nelse\nsize own = want\ns = own + want\n"
        + CUTTING.replace("= b ", "= c ").replace("foot s = b", "foot s = c") + "\nend")
CUT = ("a = size own\nb = a - want\np = own + a\nif used p\nif b < least\nquit\nend\nahead free p\nelse\nif b is 0\nquit\n"
       "end\n" + OUT.replace("X", "p") + "a = size p\nb = a + b\nend\nsize own = want\ns = own + want\n" + CUTTING)
BLOCKS = {"free": FREE, "take": TAKE, "grow": GROW, "cut": CUT}

UP = "while a < len\nw1 = from a\nto a = w1\na = a + 1\nend"
DOWN = "a = len\nwhile 0 < a\na = a - 1\nw1 = from a\nto a = w1\nend"
MOVES = {"any": "if gap < 0\n" + UP + "\nelse\nif 0 < gap\n" + DOWN + "\nend\nend", "apart": UP}

LAY = "a = size - head\na = a * wide\nmany = a // {part}\na = many + {less}\nmaps = a // wide"
PLACE = ("if used is many\nno\nend\nfind\na = word * wide\nnumber = a + bit\na = number * each\nat = base + a\nset\n"
         "used = used + 1\nif used is many\nunlist\nend")
BACK = ("a = at - base\nnumber = a // each\nword = number // wide\nbit = number mod wide\nclear\nif used is many\nlist\nend\n"
        "used = used - 1\nif used is 0\nunlist\ndrop\nend")

GOT = "take p n\non none\ntop p n\non shut\nquit no\nend\nend\ncut p n\n"
SMALL = ("if n <= small\nslot p n\non full\ntake q page\non none\ntop q page\non shut\nquit no\nend\nend\ncut q page\npage q n\n"
         "slot p n\nend\nelse\n" + GOT + "end\n")
GIVE = "if own is place\ndrop own q\non last\nhang q\nend\nelse\nhang own\nend"
GROWN = "if own is block\ngrow own n\non grown\nquit ok\nend\nend\n"


def deed_texts(has_slots):
    """The texts of right deeds: with places for small lengths, or with blocks alone."""
    got = SMALL if has_slots else GOT
    move = "move p own.room\nhand p\n" + GIVE
    return {"ask": got + "hand p", "back": GIVE + "\nhand none",
            "change": "if n <= own.room\nquit ok\nend\n" + GROWN + got + move}


def head_texts(unit):
    """The texts of right heads; flags lie below unit, or, for a unit of 1 or 2, in front of the size."""
    if unit >= 4:
        return {"make": "word = size + used\na = ahead << 1\nword = word + a", "size": f"size = word &~ {unit - 1}",
                "used": "used = word & 1", "ahead": "a = word >> 1\nahead = a & 1", "use": "word = word | 1",
                "free": "word = word &~ 1", "meet": "word = word | 2", "part": "word = word &~ 2"}
    return {"make": "word = size << 2\na = ahead << 1\nword = word + a + used", "size": "size = word >> 2",
            "used": "used = word & 1", "ahead": "a = word >> 1\nahead = a & 1", "use": "word = word | 1", "free": "word = word &~ 1",
            "meet": "word = word | 2", "part": "word = word &~ 2"}


def round_text(unit, least):
    """The text of a right rounding with over 1."""
    told = f"size = a &~ {unit - 1}" if unit > 1 else "size = a"
    return f"a = n + {unit}\nif a < n\nno\nend\n{told}\nif size < {least}\nsize = {least}\nend"


CLASSES = {"hang": "bin = bits size\nif last < bin\nbin = last\nend",
           "ask": "a = len + {up}\na = bits a\nbin = a + 1\nif last < bin\nno\nend"}
LOOKING = {"hang": "bin = bits size\nif last < bin\nbin = last\nend",
           "ask": "a = len + 1\nbin = bits a\nlook\nif last < bin\nbin = last\nend"}


class Maker:
    """What a program is made of; texts tells other texts for some parts than the right ones."""

    def __init__(self, unit=4, least=8, slots=(), page=31, wide=32, bins=(12, 4), most=None, fence=None, pages=64, limit=None,
                 keep=0, idle=None, kind="any", classes=CLASSES, slab_wide=16, waste=0, texts=()):
        self.unit, self.least, self.wide = unit, least, wide
        self.texts = dict(texts)
        self.head_rules = HeadRules(unit, least, 1, wide, wide)
        self.block_rules = BlockRules(unit, least)
        top = 1 << (wide - 2) if unit < 4 else 1 << wide
        self.bin_rules = BinRules(unit, least, 1, most or min(10 ** 6, top) // unit * unit - unit, *bins)
        self.deed_rules = DeedRules(list(slots), page, least - 1, unit)
        self.top_rules = TopRules(unit, least, pages, unit if fence is None else fence, limit, waste, keep, idle)
        self.kind, self.classes, self.slab_wide = kind, classes, slab_wide

    def text(self, part, kind, right):
        return self.texts.get((part, kind), right)

    def slab(self, each):
        rules = SlabRules(self.slab_wide, 1, each)
        lay = LAY.format(part=each * self.slab_wide + 1, less=self.slab_wide - 1)
        texts = {"lay": lay, "take": PLACE, "back": BACK}
        return Slab(rules, *[SlabCode(kind, self.text("slabs", kind, text)) for kind, text in texts.items()])

    def parts(self):
        """The arguments of a program."""
        heads = Heads(self.head_rules, [HeadCode(kind, self.text("heads", kind, text)) for kind, text in head_texts(self.unit).items()])
        rounding = Rounding(self.head_rules, HeadCode("round", self.text("rounding", "round", round_text(self.unit, self.least))))
        blocks = [BlockCode(kind, self.block_rules, self.text("blocks", kind, text)) for kind, text in BLOCKS.items()]
        classes = {kind: text.format(up=self.unit - 1 + 1) for kind, text in self.classes.items()}
        bins = Bins(self.bin_rules, *[BinCode(kind, self.text("bins", kind, text)) for kind, text in classes.items()])
        maps = BinMaps(self.bin_rules, [MapCode(kind, self.text("maps", kind, text))
                                        for kind, text in zip(("find", "mark", "clear"), good_maps(self.bin_rules))])
        move = MoveCode(self.kind, MoveRules(), self.text("moves", self.kind, MOVES[self.kind]))
        slabs = [self.slab(each) for each in self.deed_rules.slots]
        deeds = [Deed(self.deed_rules, DeedCode(kind, self.text("deeds", kind, text)))
                 for kind, text in deed_texts(bool(self.deed_rules.slots)).items()]
        rules = self.top_rules
        lazy = LAZY.format(idle=rules.idle or 3 * rules.page, keep=max(rules.keep, rules.least))
        tops = [TopCode("grow", rules, self.text("top", "grow", WIDEN)), TopCode("trim", rules, self.text("top", "trim", lazy))]
        return [heads, rounding, blocks, bins, maps, move, slabs, deeds, tops]

    def program(self):
        return Program(*self.parts())


def right_makers():
    """Programs of right parts, of many sorts."""
    return [Maker(), Maker(1, 4, bins=(20, 5)), Maker(8, 8, kind="apart", pages=64), Maker(4, 8, slots=[2, 6]),
            Maker(4, 8, slots=[1, 3, 9, 20], page=60, slab_wide=16), Maker(2, 6, wide=16, classes=LOOKING, pages=32),
            Maker(4, 12, slots=[5], limit=512, idle=200, keep=64), Maker(16, 16, fence=64, pages=64, slots=[3], page=50),
            Maker(1, 5, slots=[2, 4], page=30, pages=50, fence=3, limit=700, classes=LOOKING, bins=(9, 3), kind="apart")]
