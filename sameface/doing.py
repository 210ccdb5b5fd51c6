"""A deed done by a making."""

from sameface.errors import OutOfPlace
from sameface.exprs import given_by
from sameface.faces import deed_number
from sameface.makings import bounds_for, fits_shape, need_making
from sameface.words import is_among, is_tuple_of, is_whole


def is_of_kind(face, making, kind, thing):
    """Whether anything can be handed for a kind, by a right making."""
    if is_whole(kind):
        return is_among(thing, 0, kind - 1)
    return fits_shape(bounds_for(face, making[0], kind), thing)


def can_be_handed(face, making, takes, handed):
    """Whether anything is a tuple that can be handed to a deed that takes these kinds."""
    if not is_tuple_of(handed, len(takes), len(takes)):
        return False
    return all([is_of_kind(face, making, kind, thing) for kind, thing in zip(takes, handed)])


def done_rightly(face, making, number, handed):
    """What the deed of this number gives, by a right making, handed what it can be handed."""
    takes, gives = face[1][number][1:]
    fields = tuple([(thing,) if is_whole(kind) else thing for kind, thing in zip(takes, handed)])
    given = given_by(making[1][number], fields)
    if given is None:
        return None
    bounds = bounds_for(face, making[0], gives)
    rests = tuple([told % bound for told, bound in zip(given, bounds)])
    return rests[0] if is_whole(gives) else rests


def done(face, making, name, handed):
    """What a deed gives, a worth or a number; None where it refuses."""
    need_making(face, making)
    number = deed_number(face, name)
    if not can_be_handed(face, making, face[1][number][1], handed):
        raise OutOfPlace("this can't be handed to the deed")
    return done_rightly(face, making, number, handed)
