"""Plain and hidden kinds, deeds, and faces."""

from sameface.errors import BadFace, OutOfPlace
from sameface.words import is_among, is_name, is_next_name, is_tuple_of

MOST_DEEDS = 8


def is_hidden(thing, hidden):
    """Whether anything is one of these hidden kinds."""
    return is_name(thing) and thing in hidden


def is_kind(thing, hidden):
    """Whether anything is a plain kind, or one of these hidden ones."""
    return is_among(thing, 2, 9) or is_hidden(thing, hidden)


def are_takes(thing, hidden):
    """Whether anything is a tuple of kinds that a deed can take."""
    if not is_tuple_of(thing, 0, 3) or not all(is_kind(kind, hidden) for kind in thing):
        return False
    return len([kind for kind in thing if is_hidden(kind, hidden)]) <= 2


def is_deed(thing, hidden, ahead):
    """Whether anything is a deed whose NAME rises behind the one ahead."""
    if not is_tuple_of(thing, 3, 3):
        return False
    name, takes, gives = thing
    return is_next_name(name, ahead) and are_takes(takes, hidden) and is_kind(gives, hidden)


def first_bad_hidden(hidden):
    """The number of the first thing that can't be a hidden kind, or None."""
    ahead = ""
    for number, name in enumerate(hidden):
        if not is_next_name(name, ahead):
            return number
        ahead = name
    return None


def first_bad_deed(deeds, hidden):
    """The number of the first thing that can't be a deed, or None."""
    ahead = ""
    for number, deed in enumerate(deeds):
        if not is_deed(deed, hidden, ahead):
            return number
        ahead = deed[0]
    return None


def face_fault(thing):
    """The fields of the BadFace that is due, None of a face."""
    if not is_tuple_of(thing, 2, 2):
        return (None, None)
    hidden, deeds = thing
    if not is_tuple_of(hidden, 1, 2):
        return ("hidden", None)
    if not is_tuple_of(deeds, 1, MOST_DEEDS):
        return ("deeds", None)
    number = first_bad_hidden(hidden)
    if number is not None:
        return ("hidden", number)
    number = first_bad_deed(deeds, hidden)
    if number is not None:
        return ("deeds", number)
    return None


def is_face(thing):
    """Whether anything is a face."""
    return face_fault(thing) is None


def need_face(face):
    """Refuse what is no face."""
    fault = face_fault(face)
    if fault is not None:
        part, number = fault
        raise BadFace(part, number)


def hidden_of(face):
    """The hidden kinds' names, rising."""
    need_face(face)
    return list(face[0])


def names_of(face):
    """The deeds' names, rising."""
    need_face(face)
    return [deed[0] for deed in face[1]]


def need_hidden(face, kind):
    """Refuse what is no hidden kind of a right face."""
    if not is_hidden(kind, face[0]):
        raise OutOfPlace("no hidden kind of the face is called so")


def hidden_number(face, kind):
    """The number, from 0, of a hidden kind of a right face; anything else is refused."""
    need_hidden(face, kind)
    return face[0].index(kind)


def find_deed(face, name):
    """The number, from 0, of the deed of a right face so called; None where anything else is asked."""
    names = [deed[0] for deed in face[1]]
    if is_name(name) and name in names:
        return names.index(name)
    return None


def deed_number(face, name):
    """The number, from 0, of the deed of a right face so called; anything else is refused."""
    number = find_deed(face, name)
    if number is None:
        raise OutOfPlace("no deed of the face is called so")
    return number


def takes_of(face, name):
    """The kinds that a deed takes."""
    need_face(face)
    return face[1][deed_number(face, name)][1]


def gives_of(face, name):
    """The kind that a deed gives."""
    need_face(face)
    return face[1][deed_number(face, name)][2]
