"""Users of a face."""

from sameface.errors import BadUser
from sameface.faces import find_deed, need_face
from sameface.words import is_among, is_tuple_of, is_whole

MOST_ROWS = 200


def may_be_handed(thing, kind, given):
    """Whether anything can be handed for a kind, behind rows that gave these kinds."""
    if is_whole(kind):
        return is_among(thing, 0, kind - 1)
    return is_among(thing, 0, len(given) - 1) and given[thing] == kind


def deed_of_row(row, face):
    """The deed of anything that is a row which hands as many things as it takes; else None."""
    if not is_tuple_of(row, 2, 2):
        return None
    name, handed = row
    number = find_deed(face, name)
    if number is None:
        return None
    deed = face[1][number]
    many = len(deed[1])
    return deed if is_tuple_of(handed, many, many) else None


def first_bad_place(handed, takes, given):
    """The first place of what can't be handed, or None."""
    for place, kind in enumerate(takes):
        if not may_be_handed(handed[place], kind, given):
            return place
    return None


def user_fault(face, thing):
    """The fields of the BadUser that is due of a right face, None of a user of it."""
    if not is_tuple_of(thing, 1, MOST_ROWS):
        return (None, None)
    given = []
    for number, row in enumerate(thing):
        deed = deed_of_row(row, face)
        if deed is None:
            return (number, None)
        place = first_bad_place(row[1], deed[1], given)
        if place is not None:
            return (number, place)
        given.append(deed[2])
    return None


def is_user(face, thing):
    """Whether anything is a user of a face."""
    need_face(face)
    return user_fault(face, thing) is None


def refuse_no_user(face, user):
    """Refuse what is no user of a right face."""
    fault = user_fault(face, user)
    if fault is not None:
        row, place = fault
        raise BadUser(row, place)


def need_user(face, user):
    """Refuse what is no face, then what is no user of it."""
    need_face(face)
    refuse_no_user(face, user)


def kind_told(face, user):
    """The kind that the last row's deed gives."""
    need_user(face, user)
    return face[1][find_deed(face, user[-1][0])][2]
