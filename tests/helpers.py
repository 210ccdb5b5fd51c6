"""Things that many tests hand in, and how a refusal's fields are looked at."""

import itertools
import unittest

from sameface.doing import done
from sameface.exprs import is_body

# None of these is a text, a tuple, a whole number.
ODD_THINGS = (None, True, False, 1.5, b"ab", [], ["a"], {}, {"a": 1}, {1, 2}, object(), len)

FACE = (
    ("bag", "key"),
    (
        ("add", ("bag", 3), "bag"),
        ("both", ("bag", "bag", 2), "bag"),
        ("key", (), "key"),
        ("new", (), "bag"),
        ("open", ("bag", "key"), 5),
    ),
)

FACE_TEXT = "\n".join(
    ["hidden bag key", "add bag 3 : bag", "both bag bag 2 : bag", "key : key", "new : bag", "open bag key : 5"]
)


def deep_thing(deep):
    """A tuple that holds a tuple, so many times."""
    thing = ("number", 1)
    for step in range(deep):
        thing = ("plus", thing, ("number", 1))
    return thing


class FieldsCase(unittest.TestCase):
    def refuses(self, error, fields, call, *handed):
        """The call is refused with just this error and these fields."""
        with self.assertRaises(error) as caught:
            call(*handed)
        self.assertIs(type(caught.exception), error)
        for name, value in fields.items():
            told = getattr(caught.exception, name)
            self.assertEqual((name, told, type(told)), (name, value, type(value)), handed)

    def refuses_row(self, error, row, word, call, *handed):
        self.refuses(error, {"row": row, "word": word}, call, *handed)

    def same_form(self, one, other):
        """Equal, and of the same classes all through: True is no 1, a list no tuple."""
        self.assertEqual(repr(one), repr(other))


# A making of FACE: a bag is a count below 4 and a mark below 3, a key a number below 2.
MAKING = (
    ((4, 3), (2,)),
    (
        (
            "when",
            ("same", ("in", 1, 0), ("number", 2)),
            ("refuse",),
            ("give", (("plus", ("in", 0, 0), ("number", 1)), ("less", ("in", 0, 1), ("in", 1, 0)))),
        ),
        (
            "give",
            (
                ("if", ("in", 2, 0), ("in", 0, 0), ("in", 1, 0)),
                ("times", ("number", 5), ("less", ("in", 0, 1), ("in", 1, 1))),
            ),
        ),
        ("give", (("number", 3),)),
        ("give", (("number", 0), ("number", 0))),
        (
            "when",
            ("in", 1, 0),
            ("give", (("less", ("rest", ("in", 0, 0), 3), ("number", 4)),)),
            ("give", (("under", ("in", 0, 0), ("in", 0, 1)),)),
        ),
    ),
)

MAKING_TEXT = "\n".join(
    [
        "shape bag 4 3",
        "shape key 2",
        "add when same in 1 0 2 refuse give plus in 0 0 1 , less in 0 1 in 1 0",
        "both give if in 2 0 in 0 0 in 1 0 , times 5 less in 0 1 in 1 1",
        "key give 3",
        "new give 0 , 0",
        "open when in 1 0 give less rest in 0 0 3 4 give under in 0 0 in 0 1",
    ]
)


def expression(rng, counts, deep):
    """A chance E, handed things of so many fields, at most so deep."""
    if deep <= 1 or rng.random() < 0.3:
        if counts and rng.random() < 0.75:
            thing = rng.randrange(len(counts))
            return ("in", thing, rng.randrange(counts[thing]))
        return ("number", rng.choice((0, 1, 1, 2, 3, 5, 99)))
    word = rng.choice(("plus", "less", "times", "same", "under", "rest", "if"))
    first = expression(rng, counts, deep - 1)
    if word == "rest":
        return (word, first, rng.randint(2, 9))
    many = 2 if word == "if" else 1
    return (word, first, *[expression(rng, counts, deep - 1) for place in range(many)])


def body(rng, counts, many, deep):
    """A chance body that gives so many fields, at most so deep."""
    chance = rng.random()
    if deep <= 1 or chance < 0.04:
        return ("refuse",)
    if deep <= 2 or chance < 0.7:
        return ("give", tuple(expression(rng, counts, deep - 1) for field in range(many)))
    first = body(rng, counts, many, deep - 1)
    return ("when", expression(rng, counts, deep - 1), first, body(rng, counts, many, deep - 1))


def chance_face(rng, most_deeds=6):
    """A chance face; most often each hidden kind has a deed that gives it and takes none."""
    hidden = rng.choice((("a",), ("a", "b"), ("a", "b")))
    names = rng.sample(("do", "eat", "fix", "go", "hop", "ink", "jam", "key"), rng.randint(2, most_deeds))
    deeds = []
    for at, name in enumerate(names):
        if at < len(hidden) and rng.random() < 0.9:
            takes, gives = rng.choice(((), (), (2,), (3,))), hidden[at]
        else:
            takes = [rng.choice((*hidden, *hidden, 2, 3)) for place in range(rng.choice((1, 1, 2, 2, 3)))]
            while sum(kind in hidden for kind in takes) > 2:
                takes.remove(next(kind for kind in takes if kind in hidden))
            gives = rng.choice((*hidden, *hidden, 2, 3))
        deeds.append((name, tuple(takes), gives))
    return (hidden, tuple(sorted(deeds, key=lambda deed: deed[0])))


def bounds_in(face, shapes, kind):
    """The bounds of a kind's fields."""
    return shapes[face[0].index(kind)] if kind in face[0] else (kind,)


def chance_making(rng, face, shapes=((2,), (3,), (4,), (2, 2), (3, 2), (2, 2, 2))):
    """A chance making of a face."""
    mine = tuple(rng.choice(shapes) for kind in face[0])
    bodies = []
    for name, takes, gives in face[1]:
        counts = [len(bounds_in(face, mine, kind)) for kind in takes]
        while True:
            told = body(rng, counts, len(bounds_in(face, mine, gives)), rng.randint(2, 5))
            if is_body(told, tuple(counts), len(bounds_in(face, mine, gives))):
                break
        bodies.append(told)
    return (mine, tuple(bodies))


def chance_user(rng, face, most):
    """A chance user of a face, with at most so many rows; None where the face has none."""
    rows = []
    given = []
    for step in range(most * 3):
        name, takes, gives = rng.choice(face[1])
        ahead = [[row for row, told in enumerate(given) if told == kind] for kind in takes]
        choices = [from_rows if kind in face[0] else range(kind) for kind, from_rows in zip(takes, ahead)]
        if all(choices) and len(rows) < most:
            rows.append((name, tuple(rng.choice(things) for things in choices)))
            given.append(gives)
    return tuple(rows) if rows else None


def with_more(rng, face, making, number):
    """A making that is the same, if it is one: a hidden kind has a field more, of which nothing hangs."""
    kind = face[0][number]
    shapes = tuple((*shape, 2) if at == number else shape for at, shape in enumerate(making[0]))

    def grown(told, counts):
        if told[0] == "give":
            return ("give", (*told[1], expression(rng, counts, 2)))
        if told[0] == "when":
            return ("when", told[1], grown(told[2], counts), grown(told[3], counts))
        return told

    bodies = []
    for (name, takes, gives), told in zip(face[1], making[1]):
        counts = [len(bounds_in(face, shapes, taken)) for taken in takes]
        bodies.append(grown(told, counts) if gives == kind else told)
    return (shapes, tuple(bodies))


def chance_program(rng, most_rows=12):
    """A chance program, most often of some rows, over chance faces."""
    labels = rng.sample(("one", "two", "three", "four"), rng.choice((1, 1, 2, 2, 3)))
    first = chance_face(rng)
    uses = tuple((label, first if rng.random() < 0.4 else chance_face(rng)) for label in labels)
    inputs = tuple(rng.choice((2, 2, 3, 4)) for place in range(rng.randrange(4)))
    kinds = {}
    rows = []

    def args_of(wanted):
        """The ARGs that may stand for a kind, a plain one or (LABEL, KIND); of numbers the least two."""
        told = [("name", name) for name, kind in kinds.items() if kind == wanted]
        if isinstance(wanted, int):
            told += [("name", name) for name, kind in kinds.items() if isinstance(kind, int) and kind < wanted]
            told += [("input", at) for at, kind in enumerate(inputs) if kind <= wanted] * 3
            told += [("number", number) for number in range(wanted)][:2]
        return told

    for step in range(rng.randrange(most_rows * 2)):
        name = "".join(rng.sample("abcdefgh", rng.randint(1, 3)))
        chance = rng.random()
        if len(rows) == most_rows or name in kinds:
            continue
        if chance < 0.15:
            rows.append(("say", rng.choice(args_of(9))))
        elif chance < 0.3:
            wanted = rng.choice([9, *kinds.values()])
            first, second = rng.choice(args_of(wanted)), rng.choice(args_of(wanted))
            rows.append(("pick", name, rng.choice(args_of(9)), first, second))
            told = {"name": kinds.get, "number": lambda n: n + 1, "input": inputs.__getitem__}
            both = [told[arg[0]](arg[1]) for arg in (first, second)]
            kinds[name] = both[0] if isinstance(both[0], tuple) else max(both)
        else:
            label, face = rng.choice(uses)
            deed, takes, gives = rng.choice(face[1])
            choices = [args_of(kind if isinstance(kind, int) else (label, kind)) for kind in takes]
            if all(choices):
                rows.append(("let", name, label, deed, tuple(rng.choice(args) for args in choices)))
                kinds[name] = gives if isinstance(gives, int) else (label, gives)
    return (uses, inputs, tuple(rows))


def spoilt(rng, thing):
    """A thing with a small part of it exchanged, most often for one that can't be."""
    if isinstance(thing, tuple) and thing and rng.random() < 0.85:
        at = rng.randrange(len(thing))
        chance = rng.random()
        if chance < 0.04:
            return thing[:at] + thing[at + 1 :]
        if chance < 0.08:
            return thing[: at + 1] + thing[at:]
        if chance < 0.1:
            return tuple(reversed(thing))
        return thing[:at] + (spoilt(rng, thing[at]),) + thing[at + 1 :]
    if isinstance(thing, int):
        return rng.choice((thing - 1, thing + 1, thing + 1, bool(thing), None, thing))
    if isinstance(thing, tuple):
        return rng.choice((list(thing), None, (), (thing,), (*thing, 0), thing))
    return rng.choice(("a", "b", "", None, 1, f"{thing}a", thing))


class Plainly:
    """What is come to, or comes together, found as the document says it, without any haste.

    Of a few makings: things are tuples with a worth by each of them; of one making they are of one worth.
    """

    def __init__(self, face, *makings):
        self.face = face
        self.makings = makings
        self.known = {}
        self.things = {kind: [] for kind in face[0]}
        self.levels = {kind: [] for kind in face[0]}
        self.ways = {kind: [] for kind in face[0]}
        self.apart = []
        level = 0
        while self.go(level):
            level += 1

    def ways_for(self, takes):
        sizes = [len(self.things[kind]) if kind in self.things else kind for kind in takes]
        return itertools.product(*[range(size) for size in sizes])

    def given(self, deed, way):
        """What each making gives."""
        given = []
        for at, making in enumerate(self.makings):
            handed = [self.things[kind][n][at] if kind in self.things else n for kind, n in zip(deed[1], way)]
            given.append(self.done(at, deed[0], tuple(handed)))
        return tuple(given)

    def done(self, at, name, handed):
        """What a deed gives by one of the makings; asked once of each."""
        if (at, name, handed) not in self.known:
            self.known[(at, name, handed)] = done(self.face, self.makings[at], name, handed)
        return self.known[(at, name, handed)]

    def level_for(self, deed, way):
        levels = [self.levels[kind][n] for kind, n in zip(deed[1], way) if kind in self.levels]
        return max(levels, default=-1) + 1

    def go(self, level):
        """Find all things of a level; whether there are any."""
        come = {kind: {} for kind in self.things}
        for deed in self.face[1]:
            for way in self.ways_for(deed[1]):
                given = self.given(deed, way)
                hidden = deed[2] in self.things
                if self.level_for(deed, way) == level:
                    if (None in given) if hidden else True:
                        if len(set(given)) > 1:
                            self.apart.append((level, (deed[0], way)))
                    elif given not in self.things[deed[2]]:
                        come[deed[2]].setdefault(given, []).append((deed[0], way))
        for kind, found in come.items():
            for way, given in sorted((min(ways), given) for given, ways in found.items()):
                self.things[kind].append(given)
                self.levels[kind].append(level)
                self.ways[kind].append(way)
        return any(come.values())

    def user(self, way):
        """The user that goes this way last."""
        takes = {deed[0]: deed[1] for deed in self.face[1]}
        wanted = set()

        def want(name, handed):
            for kind, number in zip(takes[name], handed):
                if kind in self.things:
                    wanted.add((self.levels[kind][number], self.ways[kind][number], kind, number))
                    want(*self.ways[kind][number])

        want(*way)
        rows = []
        places = {}
        for level, (name, handed), kind, number in [*sorted(wanted), (None, way, None, None)]:
            rows.append((name, tuple(places.get(key, key[1]) for key in zip(takes[name], handed))))
            places[(kind, number)] = len(rows) - 1
        return tuple(rows)

    def worths(self, kind):
        """The worths of a kind by the first making, by their numbers."""
        return [thing[0] for thing in self.things[kind]]

    def steps_for(self, kind):
        """All steps that take a worth of this kind, rising, with the kind that each gives."""
        for name, takes, gives in self.face[1]:
            for place, taken in enumerate(takes):
                if taken == kind:
                    for others in self.ways_for(takes[:place] + takes[place + 1 :]):
                        yield (name, place, others), gives

    def stepped(self, step, worth):
        """What a step gives with a worth, by the first making."""
        name, place, others = step
        takes = next(deed[1] for deed in self.face[1] if deed[0] == name)
        handed = []
        for kind, number in zip(takes[:place] + takes[place + 1 :], others):
            handed.append(self.things[kind][number][0] if kind in self.things else number)
        handed.insert(place, worth)
        return self.done(0, name, tuple(handed))

    def tells(self, steps, one, other):
        """Whether steps tell two worths apart."""
        for step in steps:
            one, other = self.stepped(step, one), self.stepped(step, other)
            if one is None or other is None:
                return one != other
        return isinstance(one, int) and one != other

    def fewest(self):
        """For each two worths that some steps tell apart, (KIND, ONE, OTHER), how few do."""
        fewest = {}
        for many in range(1, 40):
            more = {}
            for kind in self.things:
                for one, other in itertools.permutations(self.worths(kind), 2):
                    if (kind, one, other) not in fewest and self.told_by_more(fewest, many, kind, one, other):
                        more[(kind, one, other)] = many
            if not more:
                return fewest
            fewest.update(more)

    def told_by_more(self, fewest, many, kind, one, other):
        for step, gives in self.steps_for(kind):
            if many == 1 and self.tells([step], one, other):
                return True
            if many > 1 and (gives, self.stepped(step, one), self.stepped(step, other)) in fewest:
                return True
        return False

    def contexts(self, kind, many):
        """All steps of so many for a kind, rising."""
        for step, gives in self.steps_for(kind):
            if many == 1:
                yield (step,)
            elif gives in self.things:
                for steps in self.contexts(gives, many - 1):
                    yield (step, *steps)
