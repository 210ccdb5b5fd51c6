"""A deed done by a making."""

from sameface.errors import OutOfPlace
from sameface.exprs import chosen_by, value_of
from sameface.faces import find_deed
from sameface.makings import fits_shape, need_making
from sameface.words import is_below


def fields_handed(face, shapes, takes, handed):
    """The fields of each thing that is handed for these kinds, a list; None of anything that can't be handed."""
    if not isinstance(handed, tuple) or len(handed) != len(takes):
        return None
    fields = []
    for kind, thing in zip(takes, handed):
        if isinstance(kind, str):
            if not fits_shape(shapes[face[0].index(kind)], thing):
                return None
            fields.append(thing)
        else:
            if not is_below(thing, kind):
                return None
            fields.append((thing,))
    return fields


def given_of_kind(face, making, number, fields):
    """What the deed of this number gives by a right making, by the fields of what it is handed."""
    chosen = chosen_by(making[1][number], fields)
    if chosen is None:
        return None
    kind = face[1][number][2]
    if isinstance(kind, str):
        shape = making[0][face[0].index(kind)]
        return tuple([value_of(expression, fields) % bound for expression, bound in zip(chosen, shape)])
    return value_of(chosen[0], fields) % kind


def done_rightly(face, making, number, handed):
    """What the deed of this number gives, by a right making, handed what it can be handed."""
    takes = face[1][number][1]
    fields = [thing if isinstance(kind, str) else (thing,) for kind, thing in zip(takes, handed)]
    return given_of_kind(face, making, number, fields)


def done(face, making, name, handed):
    """What a deed gives, a worth or a number; None where it refuses."""
    need_making(face, making)
    number = find_deed(face, name)
    if number is None:
        raise OutOfPlace("no deed of the face is called so")
    fields = fields_handed(face, making[0], face[1][number][1], handed)
    if fields is None:
        raise OutOfPlace("this can't be handed to the deed")
    return given_of_kind(face, making, number, fields)
