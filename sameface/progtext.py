"""A program's text, written and read."""

from sameface.facetext import face_rows, read_face_behind
from sameface.kinds import need_program
from sameface.programs import MOST_ARGS, MOST_INPUTS, MOST_ROWS, MOST_USES, is_arg
from sameface.rows import row_at, rows_of
from sameface.words import is_name, number_of, words_of


def arg_text(arg):
    """The word of an ARG."""
    word, told = arg
    return f"${told}" if word == "input" else str(told)


def row_text(row):
    """The row's text of a row."""
    word, *things = row
    if word == "say":
        return f"say {arg_text(things[0])}"
    if word == "pick":
        names = things[:1]
        args = things[1:]
    else:
        names = things[:3]
        args = things[3]
    return " ".join([word, *names] + [arg_text(arg) for arg in args])


def program_text(program):
    """The text of a program."""
    need_program(program)
    uses, inputs, rows = program
    told = []
    for label, face in uses:
        told.append(f"use {label}")
        told.extend(face_rows(face))
    told.append(" ".join(["inputs"] + [str(kind) for kind in inputs]))
    told.extend([row_text(row) for row in rows])
    return "\n".join(told)


def end_of_face(rows, start):
    """How many rows there are up to the last one of the face whose first row stands behind so many."""
    for number in range(start + 1, len(rows)):
        words = words_of(rows[number])
        if words is not None and ":" not in words:
            return number
    return len(rows)


def read_use(rows, ahead):
    """(LABEL, FACE), read from the rows behind the first so many, and how many are gone by then."""
    row = row_at(rows, ahead + 1)
    row.take_word("use")
    label = row.take(is_name(row.seen()))
    row.close()
    end = end_of_face(rows, ahead + 1)
    return (label, read_face_behind(rows[:end], ahead + 1)), end


def read_uses(rows):
    """The USES, read from the first rows, and how many these are."""
    use, gone = read_use(rows, 0)
    uses = [use]
    # Where a row lacks here, it is the one of the inputs.
    while len(uses) < MOST_USES and row_at(rows, gone + 1).seen() == "use":
        use, gone = read_use(rows, gone)
        uses.append(use)
    return tuple(uses), gone


def read_inputs(row):
    """The INPUTS, read from their row."""
    row.take_word("inputs")
    inputs = []
    while len(inputs) < MOST_INPUTS and row.seen() is not None:
        inputs.append(row.take_number(2, 9))
    row.close()
    return tuple(inputs)


def arg_by(word):
    """What a word tells where an ARG is wanted: an ARG by its form, or none."""
    number = number_of(word)
    if number is not None:
        return ("number", number)
    if word is not None and word.startswith("$"):
        return ("input", number_of(word[1:]))
    return ("name", word)


def read_arg(row):
    """An ARG, read from the next word."""
    arg = arg_by(row.seen())
    row.take(is_arg(arg))
    return arg


def read_args(row, least, most):
    """So many ARGs, up to the row's end."""
    args = []
    while len(args) < least or (len(args) < most and row.seen() is not None):
        args.append(read_arg(row))
    row.close()
    return tuple(args)


def read_names(row, many):
    """So many names."""
    return tuple([row.take(is_name(row.seen())) for place in range(many)])


def read_row(row):
    """A row of a program."""
    word = row.take(row.seen() in ("let", "pick", "say"))
    if word == "let":
        names = read_names(row, 3)
        return (word, *names, read_args(row, 0, MOST_ARGS))
    if word == "pick":
        names = read_names(row, 1)
        args = read_args(row, 3, 3)
    else:
        names = ()
        args = read_args(row, 1, 1)
    return (word, *names, *args)


def read_program(text):
    """The program of a text by its form, whatever names and kinds it tells."""
    rows = rows_of(text)
    uses, gone = read_uses(rows)
    inputs = read_inputs(row_at(rows, gone + 1))
    told = []
    for number in range(gone + 2, len(rows) + 1):
        row = row_at(rows, number)
        if len(told) == MOST_ROWS:
            row.take(False)
        told.append(read_row(row))
    return (uses, inputs, tuple(told))
