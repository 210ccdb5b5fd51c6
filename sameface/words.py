"""Whole numbers, names, and the words of texts."""


def is_whole(thing):
    """Whether anything is a whole number; True and False are none."""
    return isinstance(thing, int) and thing is not True and thing is not False


def is_among(thing, least, most):
    """Whether anything is a whole number from the least to the most."""
    return is_whole(thing) and is_whole(least) and is_whole(most) and least <= thing <= most


def is_below(thing, bound):
    """Whether anything is a whole number from 0 below a bound, which is a number."""
    return isinstance(thing, int) and 0 <= thing < bound and thing is not True and thing is not False


def is_tuple_of(thing, least, most):
    """Whether anything is a tuple of so many things."""
    return isinstance(thing, tuple) and least <= len(thing) <= most


def is_name(thing):
    """Whether anything is one to eight small letters."""
    return isinstance(thing, str) and len(thing) <= 8 and thing.isalpha() and thing.islower() and thing.isascii()


def is_next_name(thing, ahead):
    """Whether anything is a name that rises behind the one ahead, a text ("" behind none)."""
    return is_name(thing) and ahead < thing


def number_by_figures(word, most):
    """The number of a word of one to so many figures, or None, of anything as a word."""
    # Its length is looked at first: Python refuses to read numbers of thousands of figures.
    if not isinstance(word, str) or len(word) > most or not word.isdigit() or not word.isascii():
        return None
    if word[0] == "0" and word != "0":
        return None
    return int(word)


def number_of(word):
    """The number of a word of one or two figures, or None, of anything."""
    return number_by_figures(word, 2)


def words_of(row):
    """The words between single blanks, or None where other blanks or nothing stand, of anything."""
    if not isinstance(row, str):
        return None
    words = row.split(" ")
    if "" in words:
        return None
    return words
