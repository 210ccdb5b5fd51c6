"""Es and bodies: what they are, how great they are, what they tell."""

MOST_PARTS = 60
MOST_DEEP = 8

# How many Es stand behind those words of an E behind which nothing else stands.
INNER_COUNTS = {"plus": 2, "less": 2, "times": 2, "same": 2, "under": 2, "if": 3}
PAIR_WORDS = ("plus", "less", "times", "same", "under")


# Of all that is looked at most are Es: so what they ask is written out, and the last E in one needs no call.
def left_by_expression(thing, takes, counts, deep, left):
    """How many parts may stand behind a thing that must be an E, where so many may stand from it on.

    Below 0 where it is none, is more than so deep, or has too many parts: then it is looked at no further.
    Things of the kinds that are taken have as many fields as the counts tell of their kind, or one.
    """
    while isinstance(thing, tuple):
        size = len(thing)
        if size == 3:
            word, first, second = thing
            if word == "in":
                if isinstance(first, int) and isinstance(second, int) and 0 <= first < len(takes):
                    if first is not True and first is not False and second is not True and second is not False:
                        return left - 1 if 0 <= second < counts.get(takes[first], 1) else -1
                return -1
            if deep < 2 or left < 1:
                return -1
            deep -= 1
            left -= 1
            if word in PAIR_WORDS:
                left = left_by_expression(first, takes, counts, deep, left)
                thing = second
            elif word == "rest" and isinstance(second, int) and 2 <= second <= 99:
                thing = first
            else:
                return -1
        elif size == 2:
            word, first = thing
            fits = word == "number" and isinstance(first, int) and 0 <= first <= 99
            return left - 1 if fits and first is not True and first is not False else -1
        elif size == 4 and thing[0] == "if" and deep > 1 and left > 0:
            deep -= 1
            left = left_by_expression(thing[1], takes, counts, deep, left - 1)
            left = left_by_expression(thing[2], takes, counts, deep, left)
            thing = thing[3]
        else:
            return -1
    return -1


def left_by_body(thing, takes, counts, many, deep, left):
    """How many parts may stand behind a thing that must be a body, as of an E."""
    if not isinstance(thing, tuple) or not thing or left < 1:
        return -1
    word = thing[0]
    if word == "refuse":
        return left - 1 if len(thing) == 1 else -1
    if deep < 2:
        return -1
    deep -= 1
    left -= 1
    if word == "give" and len(thing) == 2 and isinstance(thing[1], tuple) and len(thing[1]) == many:
        for expression in thing[1]:
            if left < 1:
                return -1
            left = left_by_expression(expression, takes, counts, deep, left)
        return left
    if word == "when" and len(thing) == 4:
        left = left_by_expression(thing[1], takes, counts, deep, left)
        left = left_by_body(thing[2], takes, counts, many, deep, left)
        return left_by_body(thing[3], takes, counts, many, deep, left)
    return -1


def is_body(thing, counts, many):
    """Whether anything is a body that gives so many fields."""
    takes = list(range(len(counts)))
    return left_by_body(thing, takes, dict(enumerate(counts)), many, MOST_DEEP, MOST_PARTS) >= 0


def parts_below(level):
    """The Es and bodies that stand straight in those of a list."""
    below = []
    for part in level:
        things = part[1] if part[0] == "give" else part[1:]
        below.extend([thing for thing in things if isinstance(thing, tuple)])
    return below


def parts_in(body):
    """How many parts a body, or an E, has."""
    parts = 0
    level = [body]
    while level:
        parts += len(level)
        level = parts_below(level)
    return parts


def depth_in(body):
    """How deep a body, or an E, is."""
    depth = 0
    level = [body]
    while level:
        depth += 1
        level = parts_below(level)
    return depth


def value_of(expression, fields):
    """The number that an E tells."""
    word = expression[0]
    if word == "in":
        return fields[expression[1]][expression[2]]
    if word == "number":
        return expression[1]
    first = value_of(expression[1], fields)
    if word == "rest":
        return first % expression[2]
    if word == "if":
        return value_of(expression[2 if first != 0 else 3], fields)
    second = value_of(expression[2], fields)
    if word == "plus":
        return first + second
    if word == "less":
        return first - second
    if word == "times":
        return first * second
    if word == "same":
        return 1 if first == second else 0
    return 1 if first < second else 0


def chosen_by(body, fields):
    """The Es that a body gives, a tuple; None where it refuses."""
    while body[0] == "when":
        body = body[2 if value_of(body[1], fields) != 0 else 3]
    return None if body[0] == "refuse" else body[1]


def given_by(body, fields):
    """What each E of a body tells, a tuple; None where the body refuses."""
    chosen = chosen_by(body, fields)
    if chosen is None:
        return None
    return tuple([value_of(expression, fields) for expression in chosen])
