"""Papers of leaks, laid and looked at: groupings of worths, what parts their classes, what leaks."""

from sameface.alike import Classes, by_classes, piece_of
from sameface.coming import ComeTo
from sameface.contexts import context_of, do_tell, steps_fault
from sameface.errors import BadPaper
from sameface.fewer import need_names
from sameface.leaks import come_without
from sameface.levels import sizes_at
from sameface.makings import fits_shape, need_making
from sameface.ways import strides_of
from sameface.words import is_tuple_of, is_whole


def pairs_of(things):
    """Each two of a list, in order."""
    return [(one, other) for at, one in enumerate(things) for other in things[at + 1 :]]


def partings_due(grouping):
    """The least worths of each two classes of a kind, in order."""
    return pairs_of([members[0] for members in grouping])


def leaks_due(without, whole):
    """Each two worths that are in one class of the one grouping of a kind, and in two of the other, in order."""
    homes = homes_in(whole)
    pairs = [pair for members in without for pair in pairs_of(members)]
    return sorted([(one, other) for one, other in pairs if homes[one] != homes[other]])


def homes_in(grouping):
    """The class's number of each worth in a grouping of a kind."""
    return {worth: number for number, members in enumerate(grouping) for worth in members}


def classes_told(classes):
    """The classes of alike worths, for each kind a rising tuple of rising tuples."""
    told = []
    for kind in classes.come.face[0]:
        worths = classes.come.found.things[kind]
        members = [tuple(sorted([worths[number] for number in numbers])) for numbers in classes.members_of(kind)]
        told.append(tuple(sorted(members)))
    return tuple(told)


def contexts_told(classes, dues):
    """For each kind all that is due, each two worths with their first context."""
    told = []
    for kind, due in zip(classes.come.face[0], dues):
        told.append(tuple([(one, other, context_of(classes, kind, one, other)) for one, other in due]))
    return tuple(told)


def leak_paper(face, making, names):
    """(WITHOUT, PARTED, WHOLE, LEAKS): the classes of both, and first contexts."""
    need_making(face, making)
    need_names(face, names)
    fewer = Classes(come_without(face, making, names))
    every = Classes(ComeTo(face, making))
    without = classes_told(fewer)
    whole = classes_told(every)
    parted = contexts_told(fewer, [partings_due(grouping) for grouping in without])
    leaked = contexts_told(every, [leaks_due(one, other) for one, other in zip(without, whole)])
    return (without, parted, whole, leaked)


def need_part(come, paper, at):
    """Refuse a part that is no tuple with a thing for each hidden kind."""
    many = len(come.face[0])
    if not is_tuple_of(paper[at], many, many):
        raise BadPaper((at,))


def are_rising_worths(thing, shape):
    """Whether anything is a rising tuple of unlike worths by a shape."""
    if not isinstance(thing, tuple):
        return False
    ahead = ()
    for worth in thing:
        if not fits_shape(shape, worth) or not ahead < worth:
            return False
        ahead = worth
    return True


def is_grouping(come, number, thing):
    """Whether anything is a rising tuple of classes, in which each come-to worth of a kind is once, and none else."""
    if not isinstance(thing, tuple):
        return False
    ahead = ()
    worths = []
    for members in thing:
        # A class of nothing rises behind none.
        if not are_rising_worths(members, come.making[0][number]) or not ahead < members:
            return False
        ahead = members
        worths.extend(members)
    return sorted(worths) == sorted(come.found.things[come.face[0][number]])


def numbered(come, part):
    """For each kind of a grouping a list with a list of the worths' numbers of each class."""
    told = {}
    for kind, grouping in zip(come.face[0], part):
        numbers = come.found.numbers[kind]
        told[kind] = [[numbers[worth] for worth in members] for members in grouping]
    return told


def tables_by(come, grouping):
    """For each deed what it gives for all ways, with classes' numbers for worths' numbers."""
    tables = []
    for number, deed in enumerate(come.face[1]):
        table = come.table(number)
        if not is_whole(deed[2]):
            table = by_classes(table, homes_in(grouping[deed[2]]))
        tables.append(table)
    return tables


def keeps_classes(table, classes, stride, size):
    """Whether a table has the same for all worths of a class at a place, whatever stands at the others."""
    for members in classes:
        first = piece_of(table, members[0], stride, size)
        for number in members[1:]:
            if piece_of(table, number, stride, size) != first:
                return False
    return True


def is_kept(come, tables, grouping, kind):
    """Whether a grouping is kept where worths of a kind are handed in."""
    for deed, table in zip(come.face[1], tables):
        sizes = sizes_at(deed[1], come.found.known)
        for taken, stride, size in zip(deed[1], strides_of(sizes), sizes):
            if taken == kind and not keeps_classes(table, grouping[kind], stride, size):
                return False
    return True


def check_grouping(come, paper, at):
    """Refuse a part that is no grouping that is kept."""
    need_part(come, paper, at)
    for number, thing in enumerate(paper[at]):
        if not is_grouping(come, number, thing):
            raise BadPaper((at, number))
    grouping = numbered(come, paper[at])
    tables = tables_by(come, grouping)
    for number, kind in enumerate(come.face[0]):
        if not is_kept(come, tables, grouping, kind):
            raise BadPaper((at, number))


def is_due(come, number, thing, due):
    """Whether anything is (ONE, OTHER, STEPS) of two worths that are due, and steps that tell them apart."""
    if not is_tuple_of(thing, 3, 3):
        return False
    one, other, steps = thing
    shape = come.making[0][number]
    if not fits_shape(shape, one) or not fits_shape(shape, other) or (one, other) != due:
        return False
    return steps_fault(come, come.face[0][number], steps) is None and do_tell(come, steps, one, other)


def check_told(come, paper, at, dues):
    """Refuse a part that hasn't, for each kind, just what is due."""
    need_part(come, paper, at)
    for number, (thing, due) in enumerate(zip(paper[at], dues)):
        if not isinstance(thing, tuple):
            raise BadPaper((at, number))
        for place, (told, pair) in enumerate(zip(thing, due)):
            if not is_due(come, number, told, pair):
                raise BadPaper((at, number, place))
        if len(thing) != len(due):
            raise BadPaper((at, number, min(len(thing), len(due))))


def check_leaks(face, making, names, paper):
    """Refuse what is no right paper of leaks."""
    need_making(face, making)
    need_names(face, names)
    if not is_tuple_of(paper, 4, 4):
        raise BadPaper(())
    fewer = come_without(face, making, names)
    every = ComeTo(face, making)
    check_grouping(fewer, paper, 0)
    check_told(fewer, paper, 1, [partings_due(grouping) for grouping in paper[0]])
    check_grouping(every, paper, 2)
    check_told(every, paper, 3, [leaks_due(one, other) for one, other in zip(paper[0], paper[2])])
