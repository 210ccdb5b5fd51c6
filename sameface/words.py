"""Whole numbers, names, and the words of texts."""

LETTERS = "abcdefghijklmnopqrstuvwxyz"
FIGURES = "0123456789"


def is_whole(thing):
    """Whether anything is a whole number; True and False are none."""
    return isinstance(thing, int) and not isinstance(thing, bool)


def is_among(thing, least, most):
    """Whether anything is a whole number from the least to the most."""
    return is_whole(thing) and is_whole(least) and is_whole(most) and least <= thing <= most


def is_tuple_of(thing, least, most):
    """Whether anything is a tuple of so many things."""
    return isinstance(thing, tuple) and least <= len(thing) <= most


def is_name(thing):
    """Whether anything is one to eight small letters."""
    if not isinstance(thing, str) or not 1 <= len(thing) <= 8:
        return False
    return all(sign in LETTERS for sign in thing)


def is_next_name(thing, ahead):
    """Whether anything is a name that rises behind the one ahead, a text ("" behind none)."""
    return is_name(thing) and ahead < thing


def number_by_figures(word, most):
    """The number of a word of one to so many figures, or None, of anything as a word."""
    # Its length is looked at first: Python refuses to read numbers of thousands of figures.
    if not isinstance(word, str) or not 1 <= len(word) <= most:
        return None
    if not all(sign in FIGURES for sign in word):
        return None
    if word[0] == "0" and word != "0":
        return None
    return int(word)


def number_of(word):
    """The number of a word of one or two figures, or None, of anything."""
    return number_by_figures(word, 2)


def words_of(row):
    """The words between single blanks, or None where other blanks or nothing stand, of anything."""
    if not isinstance(row, str):
        return None
    words = row.split(" ")
    if "" in words:
        return None
    return words
