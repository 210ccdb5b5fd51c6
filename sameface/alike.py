"""Come-to worths that no steps tell apart, and the classes of such."""

from sameface.coming import come_of_kind
from sameface.levels import sizes_at
from sameface.ways import strides_of
from sameface.words import is_whole


def piece_of(table, thing, stride, size):
    """What a table has for all ways with a thing at a place, in order."""
    if stride < 2:
        return table[thing::size]
    piece = []
    for start in range(thing * stride, len(table), stride * size):
        piece.extend(table[start : start + stride])
    return piece


class Classes:
    """For each hidden kind the class's number of each come-to worth, as so many steps tell them apart.

    Those that no more than N steps tell apart are in one class of the N-th of all groupings; the last one's
    classes are those of alike worths.
    """

    def __init__(self, come):
        self.come = come
        deeds = come.face[1]
        self.tables = [come.table(number) for number in range(len(deeds))]
        self.told = {}
        self.groupings = [{kind: [0] * come.found.known[kind] for kind in come.face[0]}]
        self.groupings.append(self.next_grouping(list(range(len(deeds)))))
        # A number that is told parts at the first step: further ones are parted by what is given of hidden kinds.
        onward = [number for number, deed in enumerate(deeds) if not is_whole(deed[2])]
        while self.groupings[-1] != self.groupings[-2]:
            self.groupings.append(self.next_grouping(onward))

    def told_by_classes(self, number, depth):
        """What a deed gives for all ways, with classes' numbers of the grouping of this depth for worths' numbers."""
        gives = self.come.face[1][number][2]
        if is_whole(gives):
            return self.tables[number]
        # Kept: of each two worths of a making a context may be asked.
        if (number, depth) not in self.told:
            self.told[(number, depth)] = by_classes(self.tables[number], self.groupings[depth][gives])
        return self.told[(number, depth)]

    def next_grouping(self, numbers):
        """The classes as one step more tells them apart, a step with a deed of these."""
        grouping = self.groupings[-1]
        marks = {kind: [[old] for old in grouping[kind]] for kind in grouping}
        for number in numbers:
            takes = self.come.face[1][number][1]
            sizes = sizes_at(takes, self.come.found.known)
            strides = strides_of(sizes)
            table = self.told_by_classes(number, len(self.groupings) - 1)
            for place, kind in enumerate(takes):
                if not is_whole(kind):
                    for thing in range(sizes[place]):
                        marks[kind][thing].extend(piece_of(table, thing, strides[place], sizes[place]))
        return {kind: classes_by(marks[kind]) for kind in marks}

    def are_in_one(self, kind, one, other):
        """Whether two come-to worths, by their numbers, are alike."""
        classes = self.groupings[-1][kind]
        return classes[one] == classes[other]

    def fewest_steps(self, kind, one, other):
        """How few steps tell two come-to worths apart that aren't alike, by their numbers."""
        return [grouping[kind][one] == grouping[kind][other] for grouping in self.groupings].index(False)

    def members_of(self, kind):
        """For each class a list of its worths' numbers."""
        classes = self.groupings[-1][kind]
        members = [[] for number in range(max(classes, default=-1) + 1)]
        for worth, number in enumerate(classes):
            members[number].append(worth)
        return members


def by_classes(table, classes):
    """What a table has, with the classes' numbers of worths for the worths' own."""
    return [None if told is None else classes[told] for told in table]


def classes_by(marks):
    """For each mark its class's number: those of one mark are in one class, classes are numbered as they come."""
    numbers = {}
    return [numbers.setdefault(tuple(mark), len(numbers)) for mark in marks]


def are_alike(face, making, kind, worth, other):
    """Whether no steps tell two come-to worths apart."""
    come = come_of_kind(face, making, kind)
    one_number = come.number_for(kind, worth)
    other_number = come.number_for(kind, other)
    return Classes(come).are_in_one(kind, one_number, other_number)


def classes_of(face, making, kind):
    """A list for each class of alike worths, by their numbers."""
    come = come_of_kind(face, making, kind)
    worths = come.found.things[kind]
    return [[worths[number] for number in members] for members in Classes(come).members_of(kind)]
