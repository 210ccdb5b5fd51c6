"""A user gone through by a making."""

from sameface.doing import done_rightly
from sameface.faces import find_deed
from sameface.makings import need_making
from sameface.users import refuse_no_user
from sameface.words import is_whole


def outcome_of(face, making, user):
    """The outcome of a right user by a right making."""
    given = []
    for name, handed in user:
        number = find_deed(face, name)
        takes = face[1][number][1]
        things = tuple([thing if is_whole(kind) else given[thing] for kind, thing in zip(takes, handed)])
        told = done_rightly(face, making, number, things)
        if told is None:
            return None
        given.append(told)
    return given[-1]


def outcome(face, making, user):
    """What the last row gives, a worth or a number; None where a row is refused."""
    need_making(face, making)
    refuse_no_user(face, user)
    return outcome_of(face, making, user)
