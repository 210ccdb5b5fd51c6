"""Chance modules, and modules looked at, done and come to as the document says it, without any haste."""

import itertools

from sameface.doing import done
from sameface.facetext import read_face
from sameface.makingtext import read_making
from sameface.modules import is_module
from tests.helpers import bounds_in

PAIRS = ("plus", "less", "times", "same", "under")


def as_field(kind):
    return kind if isinstance(kind, int) else ("of", kind)


def leaves_for(want, room, got):
    """All ("in", K, F) and ("got", J) that bring what is wanted."""
    told = [(("in", at, place), field) for at, fields in enumerate(room) for place, field in enumerate(fields)]
    told += [(("got", at), field) for at, field in enumerate(got)]
    if isinstance(want, int):
        return [leaf for leaf, field in told if isinstance(field, int)]
    return [leaf for leaf, field in told if field == want]


def chance_wanted(rng, want, room, got, deep):
    """A chance E or W; None where there is no such W."""
    leaves = leaves_for(want, room, got)
    if not isinstance(want, int):
        return rng.choice(leaves + leaves[-1:] * 2) if leaves else None
    if deep <= 1 or rng.random() < 0.5:
        if leaves and rng.random() < 0.8:
            return rng.choice(leaves)
        return ("number", rng.choice((0, 1, 1, 2, 3, 7, 99)))
    word = rng.choice((*PAIRS, "rest", "if"))
    inner = [chance_wanted(rng, 2, room, got, deep - 1) for place in range(3)]
    if word == "rest":
        return (word, inner[0], rng.randint(2, 9))
    return (word, *inner[: 3 if word == "if" else 2])


def chance_call(rng, deeds, room, wants, lower, got, deep):
    """A chance body that calls one of these lower deeds; None where nothing can be handed to it."""
    name, takes, gives = rng.choice(deeds)
    args = tuple(chance_wanted(rng, as_field(kind), room, got, min(deep - 1, 2)) for kind in takes)
    if None in args:
        return None
    return ("call", name, args, chance_calling(rng, room, wants, lower, [*got, as_field(gives)], deep - 1))


def chance_calling(rng, room, wants, lower, got, deep):
    """A chance body of a module."""
    chance = rng.random()
    missing = [want for want in wants if not isinstance(want, int) and not leaves_for(want, room, got)]
    if deep > 2 and (missing or chance < 0.35):
        deeds = [deed for deed in lower[1] if as_field(deed[2]) in missing] or lower[1]
        told = chance_call(rng, deeds, room, wants, lower, got, deep)
        if told is not None:
            return told
    if deep > 2 and chance < 0.5:
        condition = chance_wanted(rng, 2, room, got, 2)
        first = chance_calling(rng, room, wants, lower, got, deep - 1)
        return ("when", condition, first, chance_calling(rng, room, wants, lower, got, deep - 1))
    given = tuple(chance_wanted(rng, want, room, got, min(deep - 1, 3)) for want in wants)
    if deep < 2 or None in given or chance > 0.98:
        return ("refuse",)
    return ("give", given)


def chance_module(rng, upper, lower, most=3, least=1):
    """A chance module of a face over another, with so many fields."""
    shapes = []
    for kind in upper[0]:
        fields = []
        while len(fields) < least or (len(fields) < most and rng.random() < 0.5):
            fields.append(rng.choice((2, 2, 3, *[("of", taken) for taken in lower[0]] * (least + 1))))
        shapes.append(tuple(fields))
    bodies = []
    for name, takes, gives in upper[1]:
        room = [bounds_in(upper, shapes, kind) for kind in takes]
        bodies.append(chance_calling(rng, room, bounds_in(upper, shapes, gives), lower, [], rng.randint(4, 7)))
    module = (tuple(shapes), tuple(bodies))
    return module if is_module(upper, lower, module) else chance_module(rng, upper, lower, most, least)


def plain_is_module(upper, lower, thing):
    """The fields of the BadModule that is due; None of a module."""
    if not isinstance(thing, tuple) or len(thing) != 2:
        return (None, None)
    shapes, bodies = thing
    if not isinstance(shapes, tuple) or len(shapes) != len(upper[0]):
        return ("shapes", None)
    if not isinstance(bodies, tuple) or len(bodies) != len(upper[1]):
        return ("bodies", None)
    for at, shape in enumerate(shapes):
        if not isinstance(shape, tuple) or not 1 <= len(shape) <= 3:
            return ("shapes", at)
        product = 1
        for field in shape:
            if repr(field) in [repr(("of", kind)) for kind in lower[0]]:
                continue
            if repr(field) not in [repr(bound) for bound in range(2, 10)]:
                return ("shapes", at)
            product *= field
        if product > 16:
            return ("shapes", at)
    for at, (name, takes, gives) in enumerate(upper[1]):
        room = [bounds_in(upper, shapes, kind) for kind in takes]
        parts = plain_body_parts(bodies[at], room, bounds_in(upper, shapes, gives), lower, [])
        if parts is None or len(parts) > 60 or max(parts) > 8:
            return ("bodies", at)
    return None


def plain_body_parts(thing, room, wants, lower, got):
    """The depths of all parts of a body, itself at 1; None where it is none by its form."""
    if not isinstance(thing, tuple) or not thing:
        return None
    inner = None
    if thing[0] == "refuse" and len(thing) == 1:
        inner = []
    elif thing[0] == "give" and len(thing) == 2 and isinstance(thing[1], tuple) and len(thing[1]) == len(wants):
        inner = [plain_parts(told, want, room, got) for told, want in zip(thing[1], wants)]
    elif thing[0] == "when" and len(thing) == 4:
        inner = [plain_parts(thing[1], 2, room, got)]
        inner += [plain_body_parts(body, room, wants, lower, got) for body in thing[2:]]
    elif thing[0] == "call" and len(thing) == 4:
        deeds = [deed for deed in lower[1] if repr(deed[0]) == repr(thing[1])]
        if deeds and isinstance(thing[2], tuple) and len(thing[2]) == len(deeds[0][1]):
            inner = [plain_parts(arg, as_field(kind), room, got) for arg, kind in zip(thing[2], deeds[0][1])]
            inner.append(plain_body_parts(thing[3], room, wants, lower, [*got, as_field(deeds[0][2])]))
    return all_parts(inner)


def plain_parts(thing, want, room, got):
    """The same of an E or a W."""
    if repr(thing) in [repr(leaf) for leaf in leaves_for(want, room, got)]:
        return [1]
    if not isinstance(want, int) or not isinstance(thing, tuple) or not thing:
        return None
    inner = None
    if repr(thing) in [repr(("number", number)) for number in range(100)]:
        inner = []
    elif thing[0] in PAIRS and len(thing) == 3:
        inner = [plain_parts(told, 2, room, got) for told in thing[1:]]
    elif thing[0] == "if" and len(thing) == 4:
        inner = [plain_parts(told, 2, room, got) for told in thing[1:]]
    elif thing[0] == "rest" and len(thing) == 3 and repr(thing[2]) in [repr(number) for number in range(2, 100)]:
        inner = [plain_parts(thing[1], 2, room, got)]
    return all_parts(inner)


def all_parts(inner):
    if inner is None or None in inner:
        return None
    return [1] + [depth + 1 for parts in inner for depth in parts]


def plain_value(told, things, got):
    """What an E or a W is."""
    word = told[0]
    if word == "number":
        return told[1]
    if word == "in":
        return things[told[1]][told[2]]
    if word == "got":
        return got[told[1]]
    values = [plain_value(inner, things, got) for inner in told[1:] if isinstance(inner, tuple)]
    if word == "rest":
        return values[0] % told[2]
    if word == "if":
        return values[1] if values[0] else values[2]
    one, other = values
    return {"plus": one + other, "less": one - other, "times": one * other, "same": int(one == other)}.get(
        word, int(one < other)
    )


class PlainOver:
    """A module over a making; or over another such, whose worths then stand for the making's."""

    def __init__(self, upper, lower, module, below):
        self.upper = upper
        self.lower = lower
        self.module = module
        self.below = below

    def done_below(self, name, handed):
        if isinstance(self.below, PlainOver):
            return self.below.done(name, handed)
        return done(self.lower, self.below, name, handed)

    def done(self, name, handed):
        at, deed = next((at, deed) for at, deed in enumerate(self.upper[1]) if deed[0] == name)
        things = [(thing,) if isinstance(kind, int) else thing for kind, thing in zip(deed[1], handed)]
        fields = bounds_in(self.upper, self.module[0], deed[2])
        given = self.given(self.module[1][at], things, [], fields)
        return given if given is None or not isinstance(deed[2], int) else given[0]

    def given(self, body, things, got, fields):
        if body[0] == "refuse":
            return None
        if body[0] == "when":
            return self.given(body[2] if plain_value(body[1], things, got) else body[3], things, got, fields)
        if body[0] == "call":
            takes = next(deed[1] for deed in self.lower[1] if deed[0] == body[1])
            values = [plain_value(arg, things, got) for arg in body[2]]
            handed = [value % kind if isinstance(kind, int) else value for value, kind in zip(values, takes)]
            told = self.done_below(body[1], tuple(handed))
            return None if told is None else self.given(body[3], things, [*got, told], fields)
        values = [plain_value(told, things, got) for told in body[1]]
        return tuple(value % field if isinstance(field, int) else value for value, field in zip(values, fields))

    def worths(self, kind):
        """All worths of an upper kind, or numbers of a plain one."""
        if isinstance(kind, int):
            return list(range(kind))
        choices = []
        for field in self.module[0][self.upper[0].index(kind)]:
            if isinstance(field, int):
                choices.append(range(field))
            elif isinstance(self.below, PlainOver):
                choices.append(self.below.worths(field[1]))
            else:
                shape = self.below[0][self.lower[0].index(field[1])]
                choices.append(list(itertools.product(*[range(bound) for bound in shape])))
        return list(itertools.product(*choices))


def flat(thing):
    """A worth with the numbers of all that is in it."""
    if not isinstance(thing, tuple):
        return (thing,)
    return tuple(number for field in thing for number in flat(field))


class PlainComing:
    """What comes over, level by level: things are tuples with a worth by each of some PlainOvers."""

    def __init__(self, *overs):
        self.overs = overs
        self.upper = overs[0].upper
        self.things = {kind: [] for kind in self.upper[0]}
        self.levels = {kind: [] for kind in self.upper[0]}
        self.parted = False
        level = 0
        # More than 150 are told of nowhere.
        while self.go(level) and self.many() <= 150:
            level += 1

    def go(self, level):
        come = {kind: {} for kind in self.things}
        for name, takes, gives in self.upper[1]:
            sizes = [len(self.things[kind]) if kind in self.things else kind for kind in takes]
            for way in itertools.product(*[range(size) for size in sizes]):
                levels = [self.levels[kind][n] for kind, n in zip(takes, way) if kind in self.levels]
                if max(levels, default=-1) + 1 != level:
                    continue
                told = []
                for at, over in enumerate(self.overs):
                    handed = [self.things[kind][n][at] if kind in self.things else n for kind, n in zip(takes, way)]
                    told.append(over.done(name, tuple(handed)))
                if None in told or gives not in self.things:
                    self.parted = self.parted or len(set(told)) > 1
                elif tuple(told) not in self.things[gives]:
                    come[gives].setdefault(tuple(told), (name, way))
        for kind, found in come.items():
            for way, thing in sorted((way, thing) for thing, way in found.items()):
                self.things[kind].append(thing)
                self.levels[kind].append(level)
        return any(come.values())

    def many(self):
        return sum(len(things) for things in self.things.values())


def plain_put(top, upper, first, module):
    """A module put into another one as the document says it, however great; None of hundreds of bodies."""
    shapes = tuple(tuple(itertools.chain(*[spread(upper, module, field) for field in shape])) for shape in first[0])
    made = []

    def exchange(told, leaf):
        if told[0] in ("in", "got"):
            return leaf(told)[0]
        return tuple(exchange(inner, leaf) if isinstance(inner, tuple) else inner for inner in told)

    def outer(body, leaf, calls, around):
        made.append(body)
        if len(made) > 500 or body[0] == "refuse":
            return ("refuse",)
        if body[0] == "when":
            return ("when", exchange(body[1], leaf), *[outer(inner, leaf, calls, around) for inner in body[2:]])
        if body[0] == "give":
            given = [leaf(told) if told[0] in ("in", "got") else (exchange(told, leaf),) for told in body[1]]
            return ("give", tuple(itertools.chain(*given)))
        at, (name, takes, gives) = next((at, deed) for at, deed in enumerate(upper[1]) if deed[0] == body[1])
        handed = []
        for kind, arg in zip(takes, body[2]):
            handed.append((("rest", exchange(arg, leaf), kind),) if isinstance(kind, int) else leaf(arg))

        def behind(fields, around_now):
            return outer(body[3], lambda told: fields if told == ("got", calls) else leaf(told), calls + 1, around_now)

        bounds = bounds_in(upper, module[0], gives)
        return inner_body(module[1][at], handed, [], around, bounds, behind)

    def inner_body(body, handed, got, around, bounds, behind):
        def leaf(told):
            return (handed[told[1]][told[2]],) if told[0] == "in" else (("got", got[told[1]]),)

        made.append(body)
        if len(made) > 500 or body[0] == "refuse":
            return ("refuse",)
        if body[0] == "when":
            told = [inner_body(inner, handed, got, around, bounds, behind) for inner in body[2:]]
            return ("when", exchange(body[1], leaf), *told)
        if body[0] == "call":
            args = tuple(exchange(arg, leaf) for arg in body[2])
            rest = inner_body(body[3], handed, [*got, around], around + 1, bounds, behind)
            return ("call", body[1], args, rest)
        given = [exchange(told, leaf) for told in body[1]]
        told = [("rest", e, bound) if isinstance(bound, int) else e for e, bound in zip(given, bounds)]
        return behind(tuple(told), around)

    bodies = []
    for (name, takes, gives), body in zip(top[1], first[1]):
        places = []
        for at, kind in enumerate(takes):
            number = itertools.count()
            fields = bounds_in(top, first[0], kind)
            places.append([tuple(("in", at, next(number)) for part in spread(upper, module, f)) for f in fields])
        bodies.append(outer(body, lambda told: places[told[1]][told[2]], 0, 0))
    return None if len(made) > 500 else (shapes, tuple(bodies))


def spread(upper, module, field):
    """The fields that stand in the place of a field."""
    return (field,) if isinstance(field, int) else bounds_in(upper, module[0], field[1])


RICH = read_face("hidden c\nadd c 3 : c\nget c : 5\nmix c c : c\nnew : c")
# The first two are the same; by the last two some things are refused, or are seen otherwise.
RICH_MAKINGS = tuple(
    read_making(RICH, text)
    for text in (
        "shape c 5\nadd give plus in 0 0 in 1 0\nget give in 0 0\nmix give plus in 0 0 times 2 in 1 0\nnew give 0",
        "shape c 5 3\nadd give plus in 0 0 in 1 0 , plus in 0 1 in 1 0\nget give in 0 0\n"
        "mix give plus in 0 0 times 2 in 1 0 , in 1 1\nnew give 0 , 2",
        "shape c 5\nadd when same 4 plus in 0 0 in 1 0 refuse give plus in 0 0 in 1 0\nget give in 0 0\n"
        "mix give plus in 0 0 times 2 in 1 0\nnew give 0",
        "shape c 6\nadd give plus in 0 0 in 1 0\nget give in 0 0\nmix give plus in 0 0 times 2 in 1 0\nnew give 0",
    )
)


def rich_upper(rng):
    """A face with deeds by which much is come to."""
    deeds = [("ask", ("a",), 4), ("both", ("a", "a"), "a"), ("count", ("a", 3), 9), ("go", ("a", 3), "a")]
    deeds += [("new", (), "a"), ("step", ("a",), "a"), ("tell", ("a", "a"), 2)]
    chosen = rng.sample(deeds[:4] + deeds[5:], rng.randint(2, 5))
    return (("a",), tuple(sorted([*chosen, deeds[4]])))


def rich_module(rng, upper):
    """A module of such a face over RICH by which much is come to."""
    worth = ("of", "c")
    shape = rng.choice(((worth, worth), (worth, worth, worth), (worth, 4), (3, worth, 2), (worth, 3, worth), (worth,)))

    def stepped(takes):
        """A body that goes on with one field."""
        at = rng.randrange(len(shape))
        number = ("in", 1, 0) if takes[1:] == (3,) else ("number", rng.randint(1, 2))
        others = [("in", 0, field) for field in range(len(shape))]
        if shape[at] != worth:
            others[at] = ("plus", ("in", 0, at), number)
            return ("give", tuple(others))
        others[at] = ("got", 0)
        if takes == ("a", "a") and rng.random() < 0.7:
            return ("call", "mix", (("in", 0, at), ("in", 1, at)), ("give", tuple(others)))
        return ("call", "add", (("in", 0, at), number), ("give", tuple(others)))

    def body(takes, gives):
        if not takes:
            return ("call", "new", (), ("give", tuple(("got", 0) if f == worth else ("number", 0) for f in shape)))
        if gives == "a":
            return stepped(takes)
        at = rng.randrange(len(shape))
        if shape[at] != worth:
            return ("give", (("in", 0, at),))
        return ("call", "get", (("in", 0, at),), ("give", (rng.choice((("got", 0), ("number", 1))),)))

    bodies = []
    for name, takes, gives in upper[1]:
        told = body(takes, gives)
        if takes and rng.random() < 0.3:
            condition = chance_wanted(rng, 2, [bounds_in(upper, (shape,), kind) for kind in takes], [], 2)
            told = ("when", condition, told, body(takes, gives))
        bodies.append(told)
    module = ((shape,), tuple(bodies))
    return module if is_module(upper, RICH, module) else rich_module(rng, upper)
