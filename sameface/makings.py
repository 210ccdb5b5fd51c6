"""Shapes, worths, and makings of a face."""

from sameface.errors import BadMaking
from sameface.exprs import is_body
from sameface.faces import deed_number, hidden_number, need_face
from sameface.words import is_among, is_tuple_of, is_whole


def is_shape(thing):
    """Whether anything is a shape."""
    if not is_tuple_of(thing, 1, 3):
        return False
    product = 1
    for bound in thing:
        if not is_among(bound, 2, 9):
            return False
        product *= bound
    return product <= 16


def fits_shape(shape, thing):
    """Whether anything is a worth by a shape."""
    if not is_tuple_of(thing, len(shape), len(shape)):
        return False
    return all([is_among(field, 0, bound - 1) for field, bound in zip(thing, shape)])


def bounds_for(face, shapes, kind):
    """The bounds of a kind's fields; a number of a plain kind N is one field below N."""
    if is_whole(kind):
        return (kind,)
    return shapes[face[0].index(kind)]


def field_counts(face, shapes, takes):
    """How many fields each thing has that a deed is handed."""
    return tuple([len(bounds_for(face, shapes, kind)) for kind in takes])


def is_body_of(thing, face, shapes, deed):
    """Whether anything is a body of a deed by these shapes."""
    takes, gives = deed[1:]
    return is_body(thing, field_counts(face, shapes, takes), len(bounds_for(face, shapes, gives)))


def making_fault(face, thing):
    """The fields of the BadMaking that is due of a right face, None of a making of it."""
    hidden, deeds = face
    if not is_tuple_of(thing, 2, 2):
        return (None, None)
    shapes, bodies = thing
    if not is_tuple_of(shapes, len(hidden), len(hidden)):
        return ("shapes", None)
    if not is_tuple_of(bodies, len(deeds), len(deeds)):
        return ("bodies", None)
    for number, shape in enumerate(shapes):
        if not is_shape(shape):
            return ("shapes", number)
    for number, body in enumerate(bodies):
        if not is_body_of(body, face, shapes, deeds[number]):
            return ("bodies", number)
    return None


def is_making(face, thing):
    """Whether anything is a making of a face."""
    need_face(face)
    return making_fault(face, thing) is None


def need_making(face, making):
    """Refuse what is no face, then what is no making of it."""
    need_face(face)
    fault = making_fault(face, making)
    if fault is not None:
        part, number = fault
        raise BadMaking(part, number)


def shape_of(face, making, kind):
    """The shape of a hidden kind."""
    need_making(face, making)
    return making[0][hidden_number(face, kind)]


def worths_of(face, making, kind):
    """All worths of a hidden kind, rising."""
    worths = [()]
    for bound in shape_of(face, making, kind):
        worths = [(*worth, field) for worth in worths for field in range(bound)]
    return worths


def is_worth(face, making, kind, thing):
    """Whether anything is a worth of a hidden kind."""
    return fits_shape(shape_of(face, making, kind), thing)


def body_of(face, making, name):
    """The body of a deed."""
    need_making(face, making)
    return making[1][deed_number(face, name)]
