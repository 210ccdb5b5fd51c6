"""Steps with a come-to worth, and those that tell two of them apart."""

from sameface.alike import Classes, piece_of
from sameface.coming import come_of_kind
from sameface.doing import done_rightly
from sameface.errors import BadSteps
from sameface.faces import find_deed
from sameface.levels import sizes_at
from sameface.ways import all_ways, strides_of
from sameface.words import is_among, is_tuple_of, is_whole

MOST_STEPS = 200


def others_of(takes, place):
    """The kinds at all places but one."""
    return takes[:place] + takes[place + 1 :]


def stepped(come, step, worth):
    """What a right step gives with a worth of its kind; None where it is refused."""
    name, place, others = step
    number = find_deed(come.face, name)
    handed = []
    for kind, other in zip(others_of(come.face[1][number][1], place), others):
        handed.append(other if is_whole(kind) else come.found.things[kind][other])
    handed.insert(place, worth)
    return done_rightly(come.face, come.making, number, tuple(handed))


def do_tell(come, steps, one, other):
    """Whether right steps tell two worths apart."""
    for step in steps:
        one = stepped(come, step, one)
        other = stepped(come, step, other)
        if one is None or other is None:
            return one != other
    return is_whole(one) and one != other


def deed_of_step(come, taken, step):
    """The deed of anything that is a step with a worth of the kind taken; None where it is none."""
    if is_whole(taken) or not is_tuple_of(step, 3, 3):
        return None
    name, place, others = step
    number = find_deed(come.face, name)
    if number is None:
        return None
    takes = come.face[1][number][1]
    if not is_among(place, 0, len(takes) - 1) or takes[place] != taken:
        return None
    sizes = sizes_at(others_of(takes, place), come.found.known)
    if not is_tuple_of(others, len(sizes), len(sizes)):
        return None
    if not all([is_among(other, 0, size - 1) for other, size in zip(others, sizes)]):
        return None
    return come.face[1][number]


def steps_fault(come, kind, thing):
    """The field, in a tuple, of the BadSteps that is due of anything, None of steps for a hidden kind."""
    if not is_tuple_of(thing, 1, MOST_STEPS):
        return (None,)
    taken = kind
    for number, step in enumerate(thing):
        deed = deed_of_step(come, taken, step)
        if deed is None:
            return (number,)
        taken = deed[2]
    return None


def need_steps(come, kind, steps):
    """Refuse what are no steps for a hidden kind."""
    fault = steps_fault(come, kind, steps)
    if fault is not None:
        raise BadSteps(fault[0])


def parting_at(classes, depth, number, place, one, other):
    """The first number, among all ways to hand a deed other things beside x at a place, of one that parts x's.

    It does, if the deed is refused with just one of the two x, or gives two numbers or worths of two classes.
    None where there is none.
    """
    sizes = sizes_at(classes.come.face[1][number][1], classes.come.found.known)
    stride = strides_of(sizes)[place]
    table = classes.told_by_classes(number, depth)
    first = piece_of(table, one, stride, sizes[place])
    second = piece_of(table, other, stride, sizes[place])
    if first == second:
        return None
    return [told == beside for told, beside in zip(first, second)].index(False)


def first_parting(classes, depth, kind, one, other):
    """The least step that parts two worths of a kind, by their numbers, and the kind that it gives.

    Worths that are given are parted if they are in two classes of the grouping of this depth.
    """
    for number, (name, takes, gives) in enumerate(classes.come.face[1]):
        for place, taken in enumerate(takes):
            if taken == kind:
                at = parting_at(classes, depth, number, place, one, other)
                if at is not None:
                    ways = all_ways(sizes_at(others_of(takes, place), classes.come.found.known))
                    return (name, place, ways[at]), gives
    return None


def context_of(classes, kind, one, other):
    """The first context of two come-to worths that aren't alike."""
    come = classes.come
    numbers = come.found.numbers
    steps = []
    # So few steps as tell them apart: each brings them to two that one step less tells apart.
    fewest = classes.fewest_steps(kind, numbers[kind][one], numbers[kind][other])
    for depth in range(fewest - 1, -1, -1):
        step, gives = first_parting(classes, depth, kind, numbers[kind][one], numbers[kind][other])
        steps.append(step)
        one = stepped(come, step, one)
        other = stepped(come, step, other)
        kind = gives
    return tuple(steps)


def first_context(face, making, kind, worth, other):
    """The first context of two come-to worths, None where they are alike."""
    come = come_of_kind(face, making, kind)
    one_number = come.number_for(kind, worth)
    other_number = come.number_for(kind, other)
    classes = Classes(come)
    if classes.are_in_one(kind, one_number, other_number):
        return None
    return context_of(classes, kind, worth, other)


def is_telling(face, making, kind, worth, other, steps):
    """Whether steps tell two come-to worths apart."""
    come = come_of_kind(face, making, kind)
    come.number_for(kind, worth)
    come.number_for(kind, other)
    need_steps(come, kind, steps)
    return do_tell(come, steps, worth, other)
