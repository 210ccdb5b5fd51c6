"""Es and bodies: what they are, how great they are, what they tell."""

from sameface.words import is_among, is_tuple_of

MOST_PARTS = 60
MOST_DEEP = 8

# How many Es stand behind those words of an E behind which nothing else stands.
INNER_COUNTS = {"plus": 2, "less": 2, "times": 2, "same": 2, "under": 2, "if": 3}


def is_handed(thing, number, counts):
    """Whether there is such a field of such a thing among what is handed in."""
    return is_among(thing, 0, len(counts) - 1) and is_among(number, 0, counts[thing] - 1)


def word_of(thing):
    """The word that anything begins with, where it is a tuple, else None."""
    if is_tuple_of(thing, 1, 4) and isinstance(thing[0], str):
        return thing[0]
    return None


def wanted_for_expression(thing, counts):
    """What must be Es for anything to be an E, as pairs (THING, False); None where it is none all the same."""
    word = word_of(thing)
    if word == "number" and len(thing) == 2 and is_among(thing[1], 0, 99):
        return []
    if word == "in" and len(thing) == 3 and is_handed(thing[1], thing[2], counts):
        return []
    if word == "rest" and len(thing) == 3 and is_among(thing[2], 2, 99):
        return [(thing[1], False)]
    if word in INNER_COUNTS and len(thing) == INNER_COUNTS[word] + 1:
        return [(expression, False) for expression in thing[1:]]
    return None


def wanted_for_body(thing, many):
    """What must be Es and bodies for anything to be a body, as pairs (THING, whether it must be a body).

    None where it is none all the same.
    """
    word = word_of(thing)
    if word == "refuse" and len(thing) == 1:
        return []
    if word == "give" and len(thing) == 2 and is_tuple_of(thing[1], many, many):
        return [(expression, False) for expression in thing[1]]
    if word == "when" and len(thing) == 4:
        return [(thing[1], False), (thing[2], True), (thing[3], True)]
    return None


def is_body(thing, counts, many):
    """Whether anything is a body that gives so many fields."""
    # Level by level, counted ahead of a look at any: so a thing of whatever size is soon done with.
    level = [(thing, True)]
    parts = 1
    for deep in range(MOST_DEEP):
        below = []
        for part, must_be_body in level:
            wanted = wanted_for_body(part, many) if must_be_body else wanted_for_expression(part, counts)
            if wanted is None:
                return False
            parts += len(wanted)
            if parts > MOST_PARTS:
                return False
            below.extend(wanted)
        level = below
    return not level


def parts_below(level):
    """The Es and bodies that stand straight in those of a list."""
    below = []
    for part in level:
        things = part[1] if part[0] == "give" else part[1:]
        below.extend([thing for thing in things if isinstance(thing, tuple)])
    return below


def parts_in(body):
    """How many parts a body, or an E, has."""
    parts = 0
    level = [body]
    while level:
        parts += len(level)
        level = parts_below(level)
    return parts


def depth_in(body):
    """How deep a body, or an E, is."""
    depth = 0
    level = [body]
    while level:
        depth += 1
        level = parts_below(level)
    return depth


def value_of(expression, fields):
    """The number that an E tells."""
    word = expression[0]
    if word == "number":
        return expression[1]
    if word == "in":
        return fields[expression[1]][expression[2]]
    first = value_of(expression[1], fields)
    if word == "rest":
        return first % expression[2]
    if word == "if":
        return value_of(expression[2 if first != 0 else 3], fields)
    return value_of_two(word, first, value_of(expression[2], fields))


def value_of_two(word, first, second):
    """The number that a word tells of two numbers."""
    if word == "plus":
        return first + second
    if word == "less":
        return first - second
    if word == "times":
        return first * second
    if word == "same":
        return 1 if first == second else 0
    return 1 if first < second else 0


def given_by(body, fields):
    """What each E of a body tells, a tuple; None where the body refuses."""
    while body[0] == "when":
        body = body[2 if value_of(body[1], fields) != 0 else 3]
    if body[0] == "refuse":
        return None
    return tuple([value_of(expression, fields) for expression in body[1]])
