"""A user's text, written and read."""

from sameface.faces import names_of
from sameface.rows import need_no_more, row_at, rows_of
from sameface.users import MOST_ROWS, may_be_handed, need_user
from sameface.words import number_by_figures


def user_rows(user):
    """The rows of a right user's text, a list."""
    return [" ".join([name] + [str(thing) for thing in handed]) for name, handed in user]


def user_text(face, user):
    """The text of a user."""
    need_user(face, user)
    return "\n".join(user_rows(user))


def read_handed(row, takes, given):
    """What a row hands to a deed that takes these kinds, behind rows that gave those kinds."""
    handed = []
    for kind in takes:
        thing = number_by_figures(row.seen(), 3)
        row.take(may_be_handed(thing, kind, given))
        handed.append(thing)
    row.close()
    return tuple(handed)


def read_user(face, text):
    """The user of a face by its text."""
    names = names_of(face)
    rows = rows_of(text)
    user = []
    given = []
    for number in range(1, min(len(rows), MOST_ROWS) + 1):
        row = row_at(rows, number)
        name = row.take(row.seen() in names)
        takes, gives = face[1][names.index(name)][1:]
        user.append((name, read_handed(row, takes, given)))
        given.append(gives)
    need_no_more(rows, MOST_ROWS)
    return tuple(user)
