"""What Es and bodies tell of many ways to hand things at once: a column has a thing for each way."""

from sameface.makings import bounds_for
from sameface.words import is_whole


def column_of(expression, columns, many):
    """The numbers that an E tells, by the columns of what is handed in, for so many ways."""
    word = expression[0]
    if word == "number":
        return [expression[1]] * many
    if word == "in":
        return columns[expression[1]][expression[2]]
    first = column_of(expression[1], columns, many)
    if word == "rest":
        return [value % expression[2] for value in first]
    second = column_of(expression[2], columns, many)
    if word == "if":
        return chosen(first, second, column_of(expression[3], columns, many))
    return column_of_two(word, first, second)


def column_of_two(word, first, second):
    """The numbers that a word tells of two columns."""
    if word == "plus":
        return [one + other for one, other in zip(first, second)]
    if word == "less":
        return [one - other for one, other in zip(first, second)]
    if word == "times":
        return [one * other for one, other in zip(first, second)]
    if word == "same":
        return [1 if one == other else 0 for one, other in zip(first, second)]
    return [1 if one < other else 0 for one, other in zip(first, second)]


def chosen(condition, first, second):
    """For each way what the first column has where the condition isn't 0, else what the second has."""
    return [one if value != 0 else other for value, one, other in zip(condition, first, second)]


def given_column(body, columns, many, bounds):
    """For each way the tuple of fields that a body gives, brought to the rests; None where it refuses."""
    if body[0] == "refuse":
        return [None] * many
    if body[0] == "when":
        condition = column_of(body[1], columns, many)
        first = given_column(body[2], columns, many, bounds)
        return chosen(condition, first, given_column(body[3], columns, many, bounds))
    fields = []
    for expression, bound in zip(body[1], bounds):
        fields.append([value % bound for value in column_of(expression, columns, many)])
    return list(zip(*fields))


def handed_columns(takes, ways, things):
    """For each place the columns of the fields of what is handed there; things are a dict of lists by kinds."""
    columns = []
    for place, kind in enumerate(takes):
        if is_whole(kind):
            columns.append([[way[place] for way in ways]])
        else:
            worths = things[kind]
            handed = [worths[way[place]] for way in ways]
            columns.append(list(zip(*handed)))
    return columns


def told_by(face, making, number, ways, things):
    """What a deed gives by a right making for each way: worths, or numbers; None where it is refused."""
    if not ways:
        return []
    takes, gives = face[1][number][1:]
    columns = handed_columns(takes, ways, things)
    given = given_column(making[1][number], columns, len(ways), bounds_for(face, making[0], gives))
    if is_whole(gives):
        return [None if fields is None else fields[0] for fields in given]
    return given
