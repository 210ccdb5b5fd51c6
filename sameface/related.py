"""Two makings of one face: what comes together, what tells them apart, what keeps a relation."""

from sameface.coming import ComeTo
from sameface.errors import OutOfPlace, TooGreat
from sameface.faces import deed_number
from sameface.levels import Levels, sizes_at, user_by
from sameface.makings import need_makings
from sameface.relations import deed_keeps, is_relation, places_for
from sameface.ways import paired_ways

MOST_PAIRS = 150


class Together:
    """The pairs of come-to worths' numbers that come together by two right makings.

    And the way by which these are told apart first; None where they are the same.
    """

    def __init__(self, face, one, other):
        self.face = face
        self.one = ComeTo(face, one)
        self.other = ComeTo(face, other)
        self.found = Levels(face[0])
        self.apart_by = None
        tables = [(self.one.table(number), self.other.table(number)) for number in range(len(face[1]))]
        while self.found.begin_level():
            self.go_level(tables)

    def go_level(self, tables):
        """Number all pairs of this level, and note what tells the makings apart at it."""
        # A copy: none of a level is handed in for another one of the same level.
        pairs = {kind: list(self.found.things[kind]) for kind in self.face[0]}
        for number, (ones, others) in enumerate(tables):
            takes = self.face[1][number][1]
            if self.found.level == 0:
                olds = [0] * len(takes)
            elif takes:
                olds = sizes_at(takes, self.found.old)
            else:
                continue
            places = places_for(takes, pairs, olds, self.one.found.known, self.other.found.known)
            self.pair_deed(number, places, ones, others)

    def pair_deed(self, number, places, ones, others):
        """Note what a deed gives on the ways of this level, by both makings' tables."""
        name, takes, gives = self.face[1][number]
        numbers = self.found.numbers.get(gives)
        for way, at, beside in paired_ways(places):
            first = ones[at]
            second = others[beside]
            if numbers is None or first is None or second is None:
                if first != second and self.apart_by is None:
                    self.apart_by = (name, way)
            elif (first, second) not in numbers:
                self.found.add_thing(gives, (first, second), name, way)
                self.need_few()

    def need_few(self):
        """Refuse more pairs than are told of."""
        if sum([len(self.found.things[kind]) for kind in self.face[0]]) > MOST_PAIRS:
            raise TooGreat("the least relation has too many pairs")

    def relation(self):
        """The least relation, told by worths."""
        told = []
        for kind in self.face[0]:
            ones = self.one.found.things[kind]
            others = self.other.found.things[kind]
            told.append(tuple(sorted([(ones[one], others[other]) for one, other in self.found.things[kind]])))
        return tuple(told)

    def first_apart(self):
        """The first user that tells the makings apart, None where they are the same."""
        if self.apart_by is None:
            return None
        return user_by(self.face, self.found, self.apart_by)


def together_by(face, one, other):
    """What comes together by two makings; refused is what is no face, or no making of it."""
    need_makings(face, one, other)
    return Together(face, one, other)


def least_relation(face, one, other):
    """All pairs of worths that come together."""
    return together_by(face, one, other).relation()


def is_same(face, one, other):
    """Whether no user tells the makings apart."""
    return together_by(face, one, other).apart_by is None


def apart(face, one, other):
    """The first user that tells the makings apart, None where they are the same."""
    return together_by(face, one, other).first_apart()


def keeps(face, one, other, relation, name):
    """Whether a deed keeps a relation."""
    need_makings(face, one, other)
    if not is_relation(face, one, other, relation):
        raise OutOfPlace("this isn't told as relations are")
    return deed_keeps(face, one, other, relation, deed_number(face, name))
