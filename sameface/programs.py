"""Arguments and rows of programs, by their form."""

from sameface.words import is_among, is_name, is_tuple_of

MOST_USES = 4
MOST_INPUTS = 3
MOST_ROWS = 30
MOST_ARGS = 3
MOST_NUMBER = 8

# How many things stand behind the word of a row.
ROW_SIZES = {"let": 4, "pick": 4, "say": 1}


def is_arg(thing):
    """Whether anything is an ARG by its form."""
    if not is_tuple_of(thing, 2, 2):
        return False
    word, told = thing
    if word == "name":
        return is_name(told)
    if word == "number":
        return is_among(told, 0, MOST_NUMBER)
    return word == "input" and is_among(told, 0, MOST_INPUTS - 1)


def is_row_of_things(thing):
    """Whether anything is a tuple of a row's word and as many things behind it."""
    if not is_tuple_of(thing, 1, 5) or not isinstance(thing[0], str):
        return False
    return ROW_SIZES.get(thing[0]) == len(thing) - 1


def are_args(thing):
    """Whether anything is a tuple of none to three ARGs by their form."""
    return is_tuple_of(thing, 0, MOST_ARGS) and all([is_arg(arg) for arg in thing])


def is_row(thing):
    """Whether anything is a row by its form."""
    if not is_row_of_things(thing):
        return False
    if thing[0] == "say":
        return is_arg(thing[1])
    if thing[0] == "pick":
        return is_name(thing[1]) and are_args(thing[2:])
    return all([is_name(name) for name in thing[1:4]]) and are_args(thing[4])
