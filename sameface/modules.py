"""Modules of an upper face over a lower one, and deeds done by them over a making."""

from sameface.calls import is_calling, with_things_behind
from sameface.doing import done_rightly
from sameface.errors import BadModule, OutOfPlace
from sameface.exprs import value_of
from sameface.faces import deed_number, find_deed, is_hidden, need_face, need_hidden
from sameface.makings import bounds_for, fits_shape, refuse_no_making
from sameface.words import is_below, is_tuple_of


def is_worth_field(thing, hidden):
    """Whether anything is ("of", KIND) of one of these hidden kinds."""
    return is_tuple_of(thing, 2, 2) and thing[0] == "of" and is_hidden(thing[1], hidden)


def are_fields(thing, hidden):
    """Whether anything is a tuple of one to three fields over these lower hidden kinds."""
    if not is_tuple_of(thing, 1, 3):
        return False
    product = 1
    for field in thing:
        if isinstance(field, int) and 2 <= field <= 9:
            product *= field
        elif not is_worth_field(field, hidden):
            return False
    return product <= 16


def module_fault(upper, lower, thing):
    """The fields of the BadModule that is due of two right faces, None of a module of the one over the other."""
    if not is_tuple_of(thing, 2, 2):
        return (None, None)
    shapes, bodies = thing
    if not is_tuple_of(shapes, len(upper[0]), len(upper[0])):
        return ("shapes", None)
    if not is_tuple_of(bodies, len(upper[1]), len(upper[1])):
        return ("bodies", None)
    for number, shape in enumerate(shapes):
        if not are_fields(shape, lower[0]):
            return ("shapes", number)
    fields = dict(zip(upper[0], shapes))
    for number, (name, takes, gives) in enumerate(upper[1]):
        # What isn't found there is a plain kind: a number below it.
        room = [fields.get(kind, (kind,)) for kind in takes]
        if not is_calling(bodies[number], room, fields.get(gives, (gives,)), lower):
            return ("bodies", number)
    return None


def need_faces(upper, lower):
    """Refuse what is no face: the upper one, then the lower one."""
    need_face(upper)
    need_face(lower)


def refuse_no_module(upper, lower, module):
    """Refuse what is no module of a right face over a right one."""
    fault = module_fault(upper, lower, module)
    if fault is not None:
        part, number = fault
        raise BadModule(part, number)


def is_module(upper, lower, thing):
    """Whether anything is a module of a face over another."""
    need_faces(upper, lower)
    return module_fault(upper, lower, thing) is None


def need_module(upper, lower, thing):
    """Refuse what is no face, then what is no module of the one over the other."""
    need_faces(upper, lower)
    refuse_no_module(upper, lower, thing)


def need_over(upper, lower, module, making):
    """Refuse what is no face, then no module, then no making of the lower face."""
    need_module(upper, lower, module)
    refuse_no_making(lower, making)


class Over:
    """A right module over a right making of the lower face."""

    def __init__(self, upper, lower, module, making):
        self.upper = upper
        self.lower = lower
        self.module = module
        self.making = making
        # Bodies as they are gone through, and what lower deeds gave: these are asked of the same again and again.
        self.bodies = {}
        self.given = {}

    def body_for(self, number):
        """The body of the upper deed of this number, in which what calls bring is handed in behind all else."""
        if number not in self.bodies:
            many = len(self.upper[1][number][1])
            self.bodies[number] = with_things_behind(self.module[1][number], many)
        return self.bodies[number]

    def fields_of(self, kind):
        """The fields of an upper kind; a number of a plain kind N is one field below N."""
        return bounds_for(self.upper, self.module[0], kind)

    def fits_kind(self, kind, thing):
        """Whether anything is a worth of an upper hidden kind over the making."""
        fields = self.fields_of(kind)
        if not is_tuple_of(thing, len(fields), len(fields)):
            return False
        for field, told in zip(fields, thing):
            if isinstance(field, int):
                fits = is_below(told, field)
            else:
                fits = fits_shape(bounds_for(self.lower, self.making[0], field[1]), told)
            if not fits:
                return False
        return True

    def may_be_taken(self, kind, thing):
        """Whether anything can be handed for an upper kind."""
        return is_below(thing, kind) if isinstance(kind, int) else self.fits_kind(kind, thing)

    def done_below(self, number, handed):
        """What the lower deed of this number gives, None where it is refused."""
        key = (number, handed)
        if key not in self.given:
            self.given[key] = done_rightly(self.lower, self.making, number, handed)
        return self.given[key]

    def called(self, body, things):
        """What a call brings, None where it is refused."""
        number = find_deed(self.lower, body[1])
        handed = []
        for kind, arg in zip(self.lower[1][number][1], body[2]):
            told = value_of(arg, things)
            handed.append(told % kind if isinstance(kind, int) else told)
        return self.done_below(number, tuple(handed))

    def given_by_body(self, body, things):
        """The Es and Ws that a body gives, None where it refuses; what calls bring is put behind the things."""
        while body[0] != "give":
            if body[0] == "refuse":
                return None
            if body[0] == "when":
                body = body[2 if value_of(body[1], things) != 0 else 3]
            else:
                told = self.called(body, things)
                if told is None:
                    return None
                things.append((told,))
                body = body[3]
        return body[1]

    def do_deed(self, number, handed):
        """What the upper deed of this number gives, handed what it can be handed; None where it is refused."""
        takes, gives = self.upper[1][number][1:]
        things = [(thing,) if isinstance(kind, int) else thing for kind, thing in zip(takes, handed)]
        given = self.given_by_body(self.body_for(number), things)
        if given is None:
            return None
        worth = []
        for field, expression in zip(self.fields_of(gives), given):
            told = value_of(expression, things)
            worth.append(told % field if isinstance(field, int) else told)
        return worth[0] if isinstance(gives, int) else tuple(worth)


def done_over(upper, lower, module, making, name, handed):
    """What an upper deed gives over a making, a worth or a number; None where it is refused."""
    need_over(upper, lower, module, making)
    number = deed_number(upper, name)
    over = Over(upper, lower, module, making)
    takes = upper[1][number][1]
    if not is_tuple_of(handed, len(takes), len(takes)):
        raise OutOfPlace("the deed doesn't take so many things")
    for kind, thing in zip(takes, handed):
        if not over.may_be_taken(kind, thing):
            raise OutOfPlace("this can't be handed to the deed")
    return over.do_deed(number, handed)


def flat_over(upper, lower, module, making, kind, worth):
    """A worth over a making, with the numbers of each lower worth in its place."""
    need_over(upper, lower, module, making)
    need_hidden(upper, kind)
    if not Over(upper, lower, module, making).fits_kind(kind, worth):
        raise OutOfPlace("no such worth is over the making")
    flat = []
    for told in worth:
        flat.extend(told if isinstance(told, tuple) else (told,))
    return tuple(flat)
