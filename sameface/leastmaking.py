"""The least making of a making: its classes of alike worths, and what deeds give of them."""

from sameface.alike import Classes
from sameface.coming import ComeTo
from sameface.levels import sizes_at
from sameface.makings import need_making
from sameface.ways import strides_of
from sameface.words import is_whole


def places_of_ways(takes, sizes, leaders):
    """Where, among all ways by these sizes, those stand that hand only leaders of hidden kinds; in order."""
    places = [0]
    for kind, stride in zip(takes, strides_of(sizes)):
        things = list(range(kind)) if is_whole(kind) else leaders[kind]
        places = [place + thing * stride for place in places for thing in things]
    return places


def least_making(face, making):
    """(COUNTS, TABLES): how many classes of each hidden kind there are, what each deed gives for all ways."""
    need_making(face, making)
    come = ComeTo(face, making)
    classes = Classes(come)
    members = {kind: classes.members_of(kind) for kind in face[0]}
    # Whichever worth of a class is handed, what comes is of one class: so one of each tells all.
    leaders = {kind: [worths[0] for worths in members[kind]] for kind in face[0]}
    tables = []
    for number, deed in enumerate(face[1]):
        told = classes.told_by_classes(number, len(classes.groupings) - 1)
        places = places_of_ways(deed[1], sizes_at(deed[1], come.found.known), leaders)
        tables.append(tuple([told[place] for place in places]))
    return (tuple([len(members[kind]) for kind in face[0]]), tuple(tables))
