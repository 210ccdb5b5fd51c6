"""What is come to by a making: worths, their levels, numbers and ways, and their first users."""

from sameface.columns import told_by
from sameface.errors import OutOfPlace
from sameface.faces import need_hidden
from sameface.levels import Levels, sizes_at, user_by
from sameface.makings import fits_shape, need_making
from sameface.ways import all_ways, fresh_ways
from sameface.words import is_whole


class ComeTo:
    """What is come to by a right making, and what deeds give by its numbers."""

    def __init__(self, face, making):
        self.face = face
        self.making = making
        self.found = Levels(face[0])
        self.told = [{} for deed in face[1]]
        while self.found.begin_level():
            for number, deed in enumerate(face[1]):
                if not is_whole(deed[2]):
                    self.go_deed(number)

    def go_deed(self, number):
        """Number all worths that a deed gives at this level."""
        name, takes, gives = self.face[1][number]
        numbers = self.found.numbers[gives]
        told = self.told[number]
        ways = self.ways_now(takes)
        for way, worth in zip(ways, told_by(self.face, self.making, number, ways, self.found.things)):
            if worth is not None and worth not in numbers:
                self.found.add_thing(gives, worth, name, way)
            told[way] = numbers.get(worth)

    def ways_now(self, takes):
        """The ways to hand these kinds that are of this level."""
        sizes = sizes_at(takes, self.found.known)
        if self.found.level == 0:
            return all_ways(sizes)
        return fresh_ways(sizes, sizes_at(takes, self.found.old))

    def table(self, number):
        """What a deed gives for all ways, rising: a come-to worth's number, a number, None where it is refused."""
        takes, gives = self.face[1][number][1:]
        ways = all_ways(sizes_at(takes, self.found.known))
        if is_whole(gives):
            return told_by(self.face, self.making, number, ways, self.found.things)
        told = self.told[number]
        return [told[way] for way in ways]

    def number_for(self, kind, worth):
        """The number of a come-to worth of a hidden kind; anything else is refused."""
        shape = self.making[0][self.face[0].index(kind)]
        # Looked at ahead of being looked up: (True,) would be found as (1,) is.
        if not fits_shape(shape, worth) or worth not in self.found.numbers[kind]:
            raise OutOfPlace("no such worth is come to")
        return self.found.numbers[kind][worth]


def come_of_kind(face, making, kind):
    """What is come to by a making; refused is what is no face, no making of it, no hidden kind."""
    need_making(face, making)
    need_hidden(face, kind)
    return ComeTo(face, making)


def come_to(face, making, kind):
    """The come-to worths of a hidden kind, by their numbers."""
    return list(come_of_kind(face, making, kind).found.things[kind])


def level_of(face, making, kind, worth):
    """The level of a come-to worth."""
    come = come_of_kind(face, making, kind)
    return come.found.levels[kind][come.number_for(kind, worth)]


def way_of(face, making, kind, worth):
    """The way of a come-to worth, with come-to worths' numbers for hidden ones."""
    come = come_of_kind(face, making, kind)
    return come.found.ways[kind][come.number_for(kind, worth)]


def first_user(face, making, kind, worth):
    """The first user of a come-to worth."""
    come = come_of_kind(face, making, kind)
    way = come.found.ways[kind][come.number_for(kind, worth)]
    return user_by(face, come.found, way)
