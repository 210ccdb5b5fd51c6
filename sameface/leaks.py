"""What deeds let leak: worths that are alike without them, and not in the whole."""

from sameface.alike import Classes
from sameface.coming import ComeTo
from sameface.contexts import context_of, need_steps, others_of
from sameface.faces import find_deed, need_hidden
from sameface.fewer import face_without, making_without, need_names
from sameface.makings import need_making
from sameface.words import is_whole


def come_without(face, making, names):
    """What is come to without the names."""
    return ComeTo(face_without(face, names), making_without(face, making, names))


def leaked_pairs(whole, without, kind):
    """The pairs (ONE, OTHER) of a kind that are alike without the names, and not in the whole; rising."""
    worths = without.come.found.things[kind]
    numbers = whole.come.found.numbers[kind]
    pairs = []
    for members in without.members_of(kind):
        rising = sorted([worths[number] for number in members])
        for at, one in enumerate(rising):
            for other in rising[at + 1 :]:
                if not whole.are_in_one(kind, numbers[one], numbers[other]):
                    pairs.append((one, other))
    return sorted(pairs)


def are_all_met(whole, without, kind):
    """Whether each class of the whole has a worth that is come to without the names."""
    worths = whole.come.found.things[kind]
    met = without.found.numbers[kind]
    return all([any([worths[number] in met for number in members]) for members in whole.members_of(kind)])


def are_silent(whole, names):
    """Whether names are silent, by the classes of the whole."""
    come = come_without(whole.come.face, whole.come.making, names)
    if not all([are_all_met(whole, come, kind) for kind in whole.come.face[0]]):
        return False
    without = Classes(come)
    return not any([leaked_pairs(whole, without, kind) for kind in whole.come.face[0]])


def leaks(face, making, names):
    """For each hidden kind all leaks (ONE, OTHER, STEPS), rising."""
    need_making(face, making)
    need_names(face, names)
    whole = Classes(ComeTo(face, making))
    without = Classes(come_without(face, making, names))
    told = []
    for kind in face[0]:
        pairs = leaked_pairs(whole, without, kind)
        told.append(tuple([(one, other, context_of(whole, kind, one, other)) for one, other in pairs]))
    return tuple(told)


def leans_by(whole, without, names, step):
    """Whether a right step has a deed of the names, or hands in a worth that isn't come to without them."""
    name, place, others = step
    if name in names:
        return True
    takes = whole.face[1][find_deed(whole.face, name)][1]
    for kind, number in zip(others_of(takes, place), others):
        if not is_whole(kind) and whole.found.things[kind][number] not in without.found.numbers[kind]:
            return True
    return False


def leans(face, making, names, kind, steps):
    """Whether steps in the whole lean on the names."""
    need_making(face, making)
    need_names(face, names)
    need_hidden(face, kind)
    whole = ComeTo(face, making)
    need_steps(whole, kind, steps)
    without = come_without(face, making, names)
    return any([leans_by(whole, without, names, step) for step in steps])


def is_silent(face, making, names):
    """Whether nothing leaks, and each class of the whole has a worth that is come to without the names."""
    need_making(face, making)
    need_names(face, names)
    return are_silent(Classes(ComeTo(face, making)), names)


def needed(face, making):
    """The names that are left where from the last one to the first all are left out that are silent so."""
    need_making(face, making)
    whole = Classes(ComeTo(face, making))
    kept = [deed[0] for deed in face[1]]
    out = ()
    for name in kept[::-1]:
        more = (name, *out)
        if len(more) < len(kept) and are_silent(whole, more):
            out = more
    return tuple([name for name in kept if name not in out])
