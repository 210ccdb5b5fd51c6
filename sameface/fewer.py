"""Faces and makings with fewer deeds."""

from sameface.errors import OutOfPlace
from sameface.faces import find_deed, need_face
from sameface.makings import need_making


def are_names(face, thing):
    """Whether anything is a rising tuple of unlike names of a right face's deeds, not of all."""
    if not isinstance(thing, tuple):
        return False
    ahead = ""
    for name in thing:
        if find_deed(face, name) is None or not ahead < name:
            return False
        ahead = name
    return len(thing) < len(face[1])


def need_names(face, names):
    """Refuse what are no names that can be left out of a right face."""
    if not are_names(face, names):
        raise OutOfPlace("these can't be left out")


def face_without(face, names):
    """A right face without the deeds so called."""
    return (face[0], tuple([deed for deed in face[1] if deed[0] not in names]))


def making_without(face, making, names):
    """A right making without the bodies of the deeds so called."""
    bodies = tuple([body for deed, body in zip(face[1], making[1]) if deed[0] not in names])
    return (making[0], bodies)


def fewer_face(face, names):
    """The face without these names' deeds."""
    need_face(face)
    need_names(face, names)
    return face_without(face, names)


def fewer_making(face, making, names):
    """The making without these names' bodies, of the fewer face."""
    need_making(face, making)
    need_names(face, names)
    return making_without(face, making, names)
