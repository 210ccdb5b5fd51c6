"""Leadings: for each come-to worth of one making, one of a same making that goes on as it does."""

from sameface.alike import Classes
from sameface.errors import BadLead, ToldApart
from sameface.related import together_by
from sameface.words import is_among, is_tuple_of


def refuse_told_apart(together):
    """Refuse two makings that aren't the same, by what comes together."""
    if together.apart_by is not None:
        raise ToldApart(together.first_apart())


def same_together(face, one, other):
    """What comes together by two makings that must be the same."""
    together = together_by(face, one, other)
    refuse_told_apart(together)
    return together


def good_leads(together):
    """For each hidden kind, for each come-to worth of the one making, the numbers that it is well led to, rising."""
    classes = Classes(together.other)
    good = {}
    for kind in together.face[0]:
        homes = classes.groupings[-1][kind]
        wanted = [{} for worth in together.one.found.things[kind]]
        for one, other in together.found.things[kind]:
            wanted[one][homes[other]] = True
        good[kind] = [[number for number, home in enumerate(homes) if home in told] for told in wanted]
    return good


def lead_fault(together, leading):
    """The fields of the BadLead that is due of anything, None of a good leading."""
    hidden = together.face[0]
    if not is_tuple_of(leading, len(hidden), len(hidden)):
        return (None, None)
    for kind, led in zip(hidden, leading):
        many = together.one.found.known[kind]
        if not is_tuple_of(led, many, many):
            return (kind, None)
    good = good_leads(together)
    for kind, led in zip(hidden, leading):
        for number, thing in enumerate(led):
            if not is_among(thing, 0, together.other.found.known[kind] - 1) or thing not in good[kind][number]:
                return (kind, number)
    return None


def leads(face, one, other):
    """The least leading."""
    good = good_leads(same_together(face, one, other))
    return tuple([tuple([numbers[0] for numbers in good[kind]]) for kind in face[0]])


def is_good(face, one, other, leading):
    """Whether anything is a good leading."""
    return lead_fault(same_together(face, one, other), leading) is None


def need_good(face, one, other, leading):
    """Refuse what is no good leading."""
    fault = lead_fault(same_together(face, one, other), leading)
    if fault is not None:
        kind, number = fault
        raise BadLead(kind, number)
