"""Things of hidden kinds that are come to level by level: their numbers, levels and ways, and users that reach them."""


class Levels:
    """For each hidden kind what is come to so far, by numbers: worths, or pairs of two makings' worths."""

    def __init__(self, hidden):
        self.level = -1
        self.things = {kind: [] for kind in hidden}
        self.numbers = {kind: {} for kind in hidden}
        self.levels = {kind: [] for kind in hidden}
        self.ways = {kind: [] for kind in hidden}
        # How many things of each kind there were at the level's begin, and at that of the level ahead.
        self.known = {kind: 0 for kind in hidden}
        self.old = self.known

    def begin_level(self):
        """Go to the next level; whether things can come at it."""
        sizes = {kind: len(self.things[kind]) for kind in self.things}
        grown = self.level < 0 or sizes != self.known
        self.level += 1
        self.old = self.known
        self.known = sizes
        return grown

    def add_thing(self, kind, thing, name, handed):
        """Give a thing that has none the next number, this level and this way."""
        self.numbers[kind][thing] = len(self.things[kind])
        self.things[kind].append(thing)
        self.levels[kind].append(self.level)
        self.ways[kind].append((name, handed))


def sizes_at(takes, sizes):
    """How many things there are for each place, by how many there are of each hidden kind."""
    # A plain kind is the number of its things.
    return [sizes.get(kind, kind) for kind in takes]


def wanted_for(takes, found, way):
    """The things that a way wants, those that their ways want, and so on: a list of (LEVEL, WAY, KIND, NUMBER)."""
    wanted = {}
    waiting = [way]
    while waiting:
        name, handed = waiting.pop()
        for kind, number in zip(takes[name], handed):
            if kind in found.things and (kind, number) not in wanted:
                ahead = found.ways[kind][number]
                wanted[(kind, number)] = (found.levels[kind][number], ahead, kind, number)
                waiting.append(ahead)
    return list(wanted.values())


def row_by(takes, way, rows):
    """The row of a user for a way, by the rows' numbers of all (KIND, NUMBER) ahead."""
    name, handed = way
    return (name, tuple([rows.get((kind, number), number) for kind, number in zip(takes[name], handed)]))


def user_by(face, found, way):
    """The user that goes a way last, ahead of it a row for each thing that is wanted, by level, then by way."""
    takes = {deed[0]: deed[1] for deed in face[1]}
    rows = {}
    user = []
    for level, ahead, kind, number in sorted(wanted_for(takes, found, way)):
        user.append(row_by(takes, ahead, rows))
        rows[(kind, number)] = len(rows)
    user.append(row_by(takes, way, rows))
    return tuple(user)
