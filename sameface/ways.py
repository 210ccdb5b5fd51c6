"""Ways to hand things to a deed: a thing's number at each place, all ways rising."""


def all_ways(sizes):
    """All tuples with a number below each size, rising."""
    ways = [()]
    for size in sizes:
        ways = [(*way, number) for way in ways for number in range(size)]
    return ways


def fresh_ways(sizes, olds):
    """Those of all ways that have, at some place, a number which is none of the olds first ones there."""
    every = [()]
    fresh = []
    for size, old in zip(sizes[::-1], olds[::-1]):
        fresh = [(number, *way) for number in range(size) for way in (fresh if number < old else every)]
        every = [(number, *way) for number in range(size) for way in every]
    return fresh


def strides_of(sizes):
    """How far apart, in the list of all ways, those stand that differ by one at each place."""
    strides = []
    stride = 1
    for size in sizes[::-1]:
        strides.append(stride)
        stride *= size
    return strides[::-1]


def longer_ways(firsts, seconds, olds, every, fresh):
    """Triples of ways with one place more ahead: behind its first so many things the fresh ones, else every one."""
    return [
        ((number, *way), first + one, second + other)
        for number, (first, second) in enumerate(zip(firsts, seconds))
        for way, one, other in (fresh if number < olds else every)
    ]


def paired_ways(places):
    """Triples (WAY, AT, BESIDE): a way, where it stands in one making's list of all ways, where in another's.

    A place is (OLDS, FIRSTS, SECONDS): how many of its first things are old ones, and how far into both
    lists each thing leads. Only ways with a thing that is no old one, rising; of no places the only way.
    """
    if not places:
        yield (), 0, 0
        return
    every = [((), 0, 0)]
    fresh = []
    for olds, firsts, seconds in places[:0:-1]:
        fresh = longer_ways(firsts, seconds, olds, every, fresh)
        every = longer_ways(firsts, seconds, 0, every, [])
    # The first place is gone through one by one: all ways together may be hundreds of thousands.
    olds, firsts, seconds = places[0]
    for number, (first, second) in enumerate(zip(firsts, seconds)):
        for way, one, other in fresh if number < olds else every:
            yield (number, *way), first + one, second + other
