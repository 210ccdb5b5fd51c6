"""Bodies of modules: those of makings, and calls of the lower face's deeds."""

from sameface.exprs import MOST_DEEP, MOST_PARTS, PAIR_WORDS
from sameface.faces import find_deed
from sameface.words import is_below

# What a field is, and what is wanted or brought somewhere, is told alike: a number where it is a number (its bound,
# its plain kind), ("of", KIND) where it is a worth of a lower hidden kind.


def told_as_field(kind):
    """What a lower kind is as a field."""
    return kind if isinstance(kind, int) else ("of", kind)


def brought_by(thing, room, got):
    """What an ("in", K, F) or a ("got", J) brings, told as a field; None of anything else.

    Room has the fields of each thing that is handed in, got what each call around brings.
    """
    if thing[0] == "in" and len(thing) == 3:
        word, number, field = thing
        # Most parts are these: so is_below is written out.
        if isinstance(number, int) and isinstance(field, int) and 0 <= number < len(room):
            if number is not True and number is not False and field is not True and field is not False:
                return room[number][field] if 0 <= field < len(room[number]) else None
    elif thing[0] == "got" and len(thing) == 2 and is_below(thing[1], len(got)):
        return got[thing[1]]
    return None


def left_by_number(thing, room, got, deep, left):
    """How many parts may stand behind a thing that must be an E, where so many may stand from it on.

    Below 0 where it is none, is more than so deep, or has too many parts: then it is looked at no further.
    """
    while isinstance(thing, tuple) and thing and left > 0:
        word = thing[0]
        size = len(thing)
        left -= 1
        if word == "in" or word == "got":
            return left if isinstance(brought_by(thing, room, got), int) else -1
        if word == "number":
            return left if size == 2 and is_below(thing[1], 100) else -1
        if deep < 2:
            return -1
        deep -= 1
        if size == 3 and word in PAIR_WORDS:
            left = left_by_number(thing[1], room, got, deep, left)
            thing = thing[2]
        elif size == 3 and word == "rest" and isinstance(thing[2], int) and 2 <= thing[2] <= 99:
            thing = thing[1]
        elif size == 4 and word == "if":
            left = left_by_number(thing[1], room, got, deep, left)
            left = left_by_number(thing[2], room, got, deep, left)
            thing = thing[3]
        else:
            return -1
    return -1


def left_by_wanted(things, wants, room, got, deep, left):
    """The same of a tuple of things that must be what is wanted: Es for numbers, Ws for worths."""
    for thing, wanted in zip(things, wants):
        if isinstance(wanted, int):
            left = left_by_number(thing, room, got, deep, left)
        elif isinstance(thing, tuple) and thing and brought_by(thing, room, got) == wanted:
            left -= 1
        else:
            return -1
        if left < 0:
            return -1
    return left


def is_tuple_for(thing, wants):
    """Whether anything is a tuple of as many things as are wanted."""
    return isinstance(thing, tuple) and len(thing) == len(wants)


def left_by_calling(thing, room, got, wants, lower, deep, left):
    """The same of a thing that must be a body, over a lower face."""
    if not isinstance(thing, tuple) or not thing or left < 1:
        return -1
    word = thing[0]
    if word == "refuse":
        return left - 1 if len(thing) == 1 else -1
    if deep < 2:
        return -1
    deep -= 1
    left -= 1
    if word == "give" and len(thing) == 2 and is_tuple_for(thing[1], wants):
        return left_by_wanted(thing[1], wants, room, got, deep, left)
    if word == "when" and len(thing) == 4:
        left = left_by_number(thing[1], room, got, deep, left)
        left = left_by_calling(thing[2], room, got, wants, lower, deep, left)
        return left_by_calling(thing[3], room, got, wants, lower, deep, left)
    if word == "call" and len(thing) == 4:
        number = find_deed(lower, thing[1])
        if number is None:
            return -1
        takes, gives = lower[1][number][1:]
        handed = [told_as_field(kind) for kind in takes]
        if not is_tuple_for(thing[2], handed):
            return -1
        left = left_by_wanted(thing[2], handed, room, got, deep, left)
        return left_by_calling(thing[3], room, [*got, told_as_field(gives)], wants, lower, deep, left)
    return -1


def is_calling(thing, room, wants, lower):
    """Whether anything is a body of a module, by the fields of what is handed in, and those that are wanted."""
    return left_by_calling(thing, room, [], wants, lower, MOST_DEEP, MOST_PARTS) >= 0


def exchanged(expression, leaves):
    """An E, or a W, in which each ("in", K, F) and ("got", J) that has leaves is exchanged for the first of these."""
    word = expression[0]
    if word == "number":
        return expression
    if word == "in" or word == "got":
        return leaves[expression][0] if expression in leaves else expression
    if word == "rest":
        return (word, exchanged(expression[1], leaves), expression[2])
    return (word, *[exchanged(inner, leaves) for inner in expression[1:]])


def as_handed(body, leaves):
    """A body in which each ("got", J) is exchanged for its leaf."""
    word = body[0]
    if word == "refuse":
        return body
    if word == "give":
        return (word, tuple([exchanged(told, leaves) for told in body[1]]))
    if word == "when":
        return (word, exchanged(body[1], leaves), as_handed(body[2], leaves), as_handed(body[3], leaves))
    args = tuple([exchanged(arg, leaves) for arg in body[2]])
    return (word, body[1], args, as_handed(body[3], leaves))


def with_things_behind(body, many):
    """A body in which what calls bring is told as things that are handed in behind those, so many, that are."""
    leaves = {("got", call): (("in", many + call, 0),) for call in range(MOST_DEEP)}
    return as_handed(body, leaves)
