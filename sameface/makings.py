"""Shapes, worths, and makings of a face."""

from sameface.errors import BadMaking
from sameface.exprs import MOST_DEEP, MOST_PARTS, left_by_body
from sameface.faces import deed_number, hidden_number, need_face


def is_shape(thing):
    """Whether anything is a shape."""
    if not isinstance(thing, tuple) or not 1 <= len(thing) <= 3:
        return False
    product = 1
    for bound in thing:
        if not isinstance(bound, int) or not 2 <= bound <= 9:
            return False
        product *= bound
    return product <= 16


def fits_shape(shape, thing):
    """Whether anything is a worth by a shape."""
    if not isinstance(thing, tuple) or len(thing) != len(shape):
        return False
    for field, bound in zip(thing, shape):
        if not isinstance(field, int) or not 0 <= field < bound or field is True or field is False:
            return False
    return True


def bounds_for(face, shapes, kind):
    """The bounds of a kind's fields; a number of a plain kind N is one field below N."""
    if isinstance(kind, str):
        return shapes[face[0].index(kind)]
    return (kind,)


def field_counts(hidden, shapes):
    """How many fields a thing of each hidden kind has; of a plain kind, of which nothing is told, it has one."""
    return {kind: len(shape) for kind, shape in zip(hidden, shapes)}


def making_fault(face, thing):
    """The fields of the BadMaking that is due of a right face, None of a making of it."""
    if not isinstance(thing, tuple) or len(thing) != 2:
        return (None, None)
    hidden, deeds = face
    shapes, bodies = thing
    if not isinstance(shapes, tuple) or len(shapes) != len(hidden):
        return ("shapes", None)
    if not isinstance(bodies, tuple) or len(bodies) != len(deeds):
        return ("bodies", None)
    # How many fields each hidden kind has; what isn't found there is a plain kind, of one field.
    counts = {}
    for number, shape in enumerate(shapes):
        if not is_shape(shape):
            return ("shapes", number)
        counts[hidden[number]] = len(shape)
    for number, (name, takes, gives) in enumerate(deeds):
        if left_by_body(bodies[number], takes, counts, counts.get(gives, 1), MOST_DEEP, MOST_PARTS) < 0:
            return ("bodies", number)
    return None


def is_making(face, thing):
    """Whether anything is a making of a face."""
    need_face(face)
    return making_fault(face, thing) is None


def refuse_no_making(face, making):
    """Refuse what is no making of a right face."""
    fault = making_fault(face, making)
    if fault is not None:
        part, number = fault
        raise BadMaking(part, number)


def need_making(face, making):
    """Refuse what is no face, then what is no making of it."""
    need_face(face)
    refuse_no_making(face, making)


def need_makings(face, one, other):
    """Refuse what is no face, then what is no making of it: the one, then the other."""
    need_face(face)
    refuse_no_making(face, one)
    refuse_no_making(face, other)


def shape_of(face, making, kind):
    """The shape of a hidden kind."""
    need_making(face, making)
    return making[0][hidden_number(face, kind)]


def worths_of(face, making, kind):
    """All worths of a hidden kind, rising."""
    worths = [()]
    for bound in shape_of(face, making, kind):
        worths = [(*worth, field) for worth in worths for field in range(bound)]
    return worths


def is_worth(face, making, kind, thing):
    """Whether anything is a worth of a hidden kind."""
    return fits_shape(shape_of(face, making, kind), thing)


def body_of(face, making, name):
    """The body of a deed."""
    need_making(face, making)
    return making[1][deed_number(face, name)]
