"""Plain and hidden kinds, deeds, and faces."""

from sameface.errors import BadFace, OutOfPlace
from sameface.words import is_name

MOST_DEEDS = 8


def is_hidden(thing, hidden):
    """Whether anything is one of these hidden kinds."""
    return isinstance(thing, str) and thing in hidden


def is_kind(thing, hidden):
    """Whether anything is a plain kind, or one of these hidden ones."""
    if isinstance(thing, str):
        return thing in hidden
    # True and False are 1 and 0, out of these bounds.
    return isinstance(thing, int) and 2 <= thing <= 9


# Faces are looked at by the thousand: so what each deed is asked is written out, but for the kind that it gives.
def first_bad_deed(deeds, hidden):
    """The number of the first thing that can't be a deed, by itself or behind the one ahead; None where all can."""
    ahead = ""
    for number, deed in enumerate(deeds):
        if not isinstance(deed, tuple) or len(deed) != 3:
            return number
        name, takes, gives = deed
        if not isinstance(name, str) or len(name) > 8 or name <= ahead:
            return number
        if not name.isalpha() or not name.islower() or not name.isascii():
            return number
        if not isinstance(takes, tuple) or len(takes) > 3 or not is_kind(gives, hidden):
            return number
        many = 0
        for kind in takes:
            if isinstance(kind, str):
                if kind not in hidden:
                    return number
                many += 1
            elif not isinstance(kind, int) or not 2 <= kind <= 9:
                return number
        if many > 2:
            return number
        ahead = name
    return None


def are_takes(thing, hidden):
    """Whether anything is a tuple of kinds that a deed can take."""
    return first_bad_deed((("a", thing, 2),), hidden) is None


def first_bad_hidden(hidden):
    """The number of the first thing that can't be a hidden kind, or None."""
    ahead = ""
    for number, name in enumerate(hidden):
        if not is_name(name) or name <= ahead:
            return number
        ahead = name
    return None


def face_fault(thing):
    """The fields of the BadFace that is due, None of a face."""
    if not isinstance(thing, tuple) or len(thing) != 2:
        return (None, None)
    hidden, deeds = thing
    if not isinstance(hidden, tuple) or not 1 <= len(hidden) <= 2:
        return ("hidden", None)
    if not isinstance(deeds, tuple) or not 1 <= len(deeds) <= MOST_DEEDS:
        return ("deeds", None)
    number = first_bad_hidden(hidden)
    if number is not None:
        return ("hidden", number)
    number = first_bad_deed(deeds, hidden)
    if number is not None:
        return ("deeds", number)
    return None


def is_face(thing):
    """Whether anything is a face."""
    return face_fault(thing) is None


def need_face(face):
    """Refuse what is no face."""
    fault = face_fault(face)
    if fault is not None:
        part, number = fault
        raise BadFace(part, number)


def hidden_of(face):
    """The hidden kinds' names, rising."""
    need_face(face)
    return list(face[0])


def names_of(face):
    """The deeds' names, rising."""
    need_face(face)
    return [deed[0] for deed in face[1]]


def need_hidden(face, kind):
    """Refuse what is no hidden kind of a right face."""
    if not is_hidden(kind, face[0]):
        raise OutOfPlace("no hidden kind of the face is called so")


def hidden_number(face, kind):
    """The number, from 0, of a hidden kind of a right face; anything else is refused."""
    need_hidden(face, kind)
    return face[0].index(kind)


def find_deed(face, name):
    """The number, from 0, of the deed of a right face so called; None where anything else is asked."""
    if isinstance(name, str):
        for number, deed in enumerate(face[1]):
            if deed[0] == name:
                return number
    return None


def deed_number(face, name):
    """The number, from 0, of the deed of a right face so called; anything else is refused."""
    number = find_deed(face, name)
    if number is None:
        raise OutOfPlace("no deed of the face is called so")
    return number


def takes_of(face, name):
    """The kinds that a deed takes."""
    need_face(face)
    return face[1][deed_number(face, name)][1]


def gives_of(face, name):
    """The kind that a deed gives."""
    need_face(face)
    return face[1][deed_number(face, name)][2]
