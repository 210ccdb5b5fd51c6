"""What comes over makings by a module: worths, pairs of them, and the paper that it is the same over same ones."""

from sameface.errors import BadPaper, OutOfPlace, TooGreat
from sameface.faces import need_hidden
from sameface.leading import refuse_told_apart
from sameface.levels import Levels, sizes_at
from sameface.makings import refuse_no_making
from sameface.modules import Over, need_over
from sameface.overcolumns import told_over
from sameface.related import MOST_PAIRS, Together
from sameface.samecheck import check_rightly
from sameface.ways import all_ways, fresh_ways
from sameface.words import is_tuple_of

MOST_WORTHS = 100


class ComeOver:
    """What comes over one making, or together over two: things are tuples with a worth over each of them.

    And whether some deed, handed such things, tells two makings apart.
    """

    def __init__(self, overs, most):
        self.overs = overs
        self.most = most
        self.upper = overs[0].upper
        self.found = Levels(self.upper[0])
        self.parted = False
        while self.found.begin_level():
            things = [self.worths_over(at) for at in range(len(overs))]
            for number, deed in enumerate(self.upper[1]):
                # A number tells of two makings alone.
                if deed[2] in self.upper[0] or len(overs) > 1:
                    self.note_deed(number, self.ways_now(deed[1]), things)

    def worths_over(self, at):
        """For each hidden kind the worths over the making of this number, by the things' numbers."""
        return {kind: [thing[at] for thing in self.found.things[kind]] for kind in self.upper[0]}

    def ways_now(self, takes):
        """The ways to hand these kinds that are of this level."""
        sizes = sizes_at(takes, self.found.known)
        if self.found.level == 0:
            return all_ways(sizes)
        return fresh_ways(sizes, sizes_at(takes, self.found.old))

    def note_deed(self, number, ways, things):
        """Number all that a deed gives at this level, and note whether it tells the makings apart."""
        name, takes, gives = self.upper[1][number]
        given = [told_over(over, number, ways, worths) for over, worths in zip(self.overs, things)]
        numbers = self.found.numbers.get(gives)
        together = list(zip(*given))
        for way, told in zip(ways, together):
            if numbers is None or None in told:
                self.parted = self.parted or told[0] != told[-1]
            elif told not in numbers:
                self.found.add_thing(gives, told, name, way)
                self.need_few()

    def need_few(self):
        """Refuse more things than are told of."""
        if sum([len(self.found.things[kind]) for kind in self.upper[0]]) > self.most:
            raise TooGreat("too much is come to")


def need_over_both(upper, lower, module, one, other):
    """Refuse what is no face, then no module, then no making of the lower face: the one, then the other."""
    need_over(upper, lower, module, one)
    refuse_no_making(lower, other)


def come_over(upper, lower, module, making, kind):
    """The worths of an upper hidden kind that are come to over a making, by their numbers."""
    need_over(upper, lower, module, making)
    need_hidden(upper, kind)
    come = ComeOver([Over(upper, lower, module, making)], MOST_WORTHS)
    return come.worths_over(0)[kind]


def is_same_over(upper, lower, module, one, other):
    """Whether no user of the upper face tells the module over the one making from that over the other."""
    need_over_both(upper, lower, module, one, other)
    overs = [Over(upper, lower, module, making) for making in (one, other)]
    return not ComeOver(overs, MOST_PAIRS).parted


def are_lifted(upper, lower, module, one, other, relation, kind, first, second):
    """Whether two worths of an upper hidden kind are lifted by a relation of lower worths."""
    need_over_both(upper, lower, module, one, other)
    need_hidden(upper, kind)
    over = Over(upper, lower, module, one)
    if not over.fits_kind(kind, first):
        raise OutOfPlace("no such worth is over the one making")
    if not Over(upper, lower, module, other).fits_kind(kind, second):
        raise OutOfPlace("no such worth is over the other making")
    for field, told, beside in zip(over.fields_of(kind), first, second):
        if isinstance(field, int):
            alike = told == beside
        else:
            alike = (told, beside) in relation[lower[0].index(field[1])]
        if not alike:
            return False
    return True


def over_paper(upper, lower, module, one, other):
    """("over", PAPER): the paper of both makings, with the least relation."""
    need_over_both(upper, lower, module, one, other)
    together = Together(lower, one, other)
    refuse_told_apart(together)
    return ("over", ("same", together.relation()))


def check_over(upper, lower, module, one, other, paper):
    """Refuse what is no right paper that a module is the same over two makings."""
    need_over_both(upper, lower, module, one, other)
    if not is_tuple_of(paper, 2, 2) or paper[0] != "over":
        raise BadPaper(None)
    told = paper[1]
    if not isinstance(told, tuple) or not told or told[0] != "same":
        raise BadPaper(None)
    check_rightly(lower, one, other, told)
