"""Relations of two makings' worths, and deeds that keep them."""

from sameface.columns import told_by
from sameface.levels import sizes_at
from sameface.makings import fits_shape
from sameface.ways import all_ways, paired_ways, strides_of
from sameface.words import is_tuple_of, is_whole


def places_for(takes, pairs, olds, ones, others):
    """The places of a deed, as paired_ways wants them.

    By, for each hidden kind, pairs of things' numbers, and how many things there are by the one making, and
    by the other; for each place how many of its first pairs are old ones.
    """
    firsts = strides_of(sizes_at(takes, ones))
    seconds = strides_of(sizes_at(takes, others))
    places = []
    for place, kind in enumerate(takes):
        paired = [(thing, thing) for thing in range(kind)] if is_whole(kind) else pairs[kind]
        leads = [pair[0] * firsts[place] for pair in paired]
        places.append((olds[place], leads, [pair[1] * seconds[place] for pair in paired]))
    return places


def is_pair_of(thing, shape, other_shape):
    """Whether anything is a pair of worths by two shapes."""
    return is_tuple_of(thing, 2, 2) and fits_shape(shape, thing[0]) and fits_shape(other_shape, thing[1])


def are_pairs(thing, shape, other_shape):
    """Whether anything is a rising tuple of unlike pairs of worths by two shapes."""
    if not isinstance(thing, tuple):
        return False
    ahead = ()
    for pair in thing:
        if not is_pair_of(pair, shape, other_shape) or not ahead < pair:
            return False
        ahead = pair
    return True


def is_relation(face, one, other, thing):
    """Whether anything is told as relations of two right makings are."""
    many = len(face[0])
    if not is_tuple_of(thing, many, many):
        return False
    return all([are_pairs(pairs, one[0][kind], other[0][kind]) for kind, pairs in enumerate(thing)])


def worths_at(face, relation, place):
    """For each hidden kind the worths at a place of a relation's pairs, each once, rising."""
    return {kind: sorted({pair[place] for pair in pairs}) for kind, pairs in zip(face[0], relation)}


def lengths_of(things):
    """How many things of each kind there are."""
    return {kind: len(things[kind]) for kind in things}


def numbered_pairs(pairs, ones, others):
    """Pairs of worths by their numbers in two lists."""
    return [(ones.index(one), others.index(other)) for one, other in pairs]


def given_for_all(face, making, number, worths):
    """What a deed gives for all ways to hand it these worths."""
    ways = all_ways(sizes_at(face[1][number][1], lengths_of(worths)))
    return told_by(face, making, number, ways, worths)


def deed_keeps(face, one, other, relation, number):
    """Whether a deed keeps a relation of two right makings."""
    takes, gives = face[1][number][1:]
    ones = worths_at(face, relation, 0)
    others = worths_at(face, relation, 1)
    firsts = given_for_all(face, one, number, ones)
    seconds = given_for_all(face, other, number, others)
    told = dict(zip(face[0], relation))
    pairs = {kind: numbered_pairs(told[kind], ones[kind], others[kind]) for kind in told}
    places = places_for(takes, pairs, [0] * len(takes), lengths_of(ones), lengths_of(others))
    related = {} if is_whole(gives) else {pair: True for pair in told[gives]}
    for way, at, beside in paired_ways(places):
        first = firsts[at]
        second = seconds[beside]
        if is_whole(gives) or first is None or second is None:
            if first != second:
                return False
        elif (first, second) not in related:
            return False
    return True
