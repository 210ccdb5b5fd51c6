"""Papers of two makings, looked at: by deeds and users alone, not by what comes together."""

from sameface.errors import BadPaper
from sameface.makings import need_makings
from sameface.relations import deed_keeps, is_relation
from sameface.running import outcome_of
from sameface.users import user_fault
from sameface.words import is_tuple_of, is_whole


def tells_apart(face, one, other, user):
    """Whether a right user tells two right makings apart."""
    first = outcome_of(face, one, user)
    second = outcome_of(face, other, user)
    if first is None or second is None or is_whole(first):
        return first != second
    return False


def check_relation(face, one, other, relation):
    """Refuse a relation that some deed doesn't keep."""
    for number in range(len(face[1])):
        if not deed_keeps(face, one, other, relation, number):
            raise BadPaper(number)


def check_rightly(face, one, other, paper):
    """Refuse what is no right paper of two right makings."""
    if not is_tuple_of(paper, 2, 2):
        raise BadPaper(None)
    word, told = paper
    if word == "same" and is_relation(face, one, other, told):
        check_relation(face, one, other, told)
    elif word == "apart" and user_fault(face, told) is None:
        if not tells_apart(face, one, other, told):
            raise BadPaper(len(told))
    else:
        raise BadPaper(None)


def check_paper(face, one, other, paper):
    """Refuse what is no right paper of two makings."""
    need_makings(face, one, other)
    check_rightly(face, one, other, paper)
