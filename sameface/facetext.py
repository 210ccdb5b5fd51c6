"""A face's text, written and read."""

from sameface.faces import MOST_DEEDS, are_takes, is_kind, need_face
from sameface.rows import need_no_more, row_at, rows_of
from sameface.words import is_next_name, number_of


def deed_row(deed):
    """The row of a deed."""
    name, takes, gives = deed
    words = [name, *takes, ":", gives]
    return " ".join([str(word) for word in words])


def face_rows(face):
    """The rows of a right face's text, a list."""
    hidden, deeds = face
    rows = [" ".join(["hidden", *hidden])]
    for deed in deeds:
        rows.append(deed_row(deed))
    return rows


def face_text(face):
    """The text of a face."""
    need_face(face)
    return "\n".join(face_rows(face))


def read_hidden(row):
    """The hidden kinds, read from the first row."""
    row.take_word("hidden")
    names = [row.take(is_next_name(row.seen(), ""))]
    if row.seen() is not None:
        names.append(row.take(is_next_name(row.seen(), names[0])))
    row.close()
    return tuple(names)


def kind_by(word):
    """The kind that a word would tell: a number, or the word itself as a name."""
    number = number_of(word)
    if number is None:
        return word
    return number


def read_takes(row, hidden):
    """The kinds up to the ":", which is gone by, too."""
    takes = ()
    while row.seen() != ":":
        more = (*takes, kind_by(row.seen()))
        row.take(are_takes(more, hidden))
        takes = more
    row.take_word(":")
    return takes


def read_deed(row, hidden, ahead):
    """A deed, read from its row; its name must rise behind the one ahead."""
    name = row.take(is_next_name(row.seen(), ahead))
    takes = read_takes(row, hidden)
    gives = kind_by(row.seen())
    row.take(is_kind(gives, hidden))
    row.close()
    return (name, takes, gives)


def read_face_behind(rows, ahead):
    """The face of all rows behind the first so many."""
    hidden = read_hidden(row_at(rows, ahead + 1))
    # The second row is asked for even where it lacks: a face has a deed.
    deeds = [read_deed(row_at(rows, ahead + 2), hidden, "")]
    most = ahead + 1 + MOST_DEEDS
    for number in range(ahead + 3, min(len(rows), most) + 1):
        deeds.append(read_deed(row_at(rows, number), hidden, deeds[-1][0]))
    need_no_more(rows, most)
    return (hidden, tuple(deeds))


def read_face(text):
    """The face of a text."""
    return read_face_behind(rows_of(text), 0)
