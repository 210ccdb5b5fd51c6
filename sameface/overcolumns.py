"""What a module's deeds give over a making on many ways at once: a column has a thing for each way."""

from sameface.columns import chosen, column_of, handed_columns
from sameface.faces import find_deed


def wanted_columns(expressions, wants, columns, many):
    """The columns of Es, brought to the rests, and of Ws, as they are wanted."""
    told = []
    for expression, wanted in zip(expressions, wants):
        column = column_of(expression, columns, many)
        told.append([value % wanted for value in column] if isinstance(wanted, int) else column)
    return told


def called_column(over, body, columns, many):
    """For each way what a call brings, None where it is refused."""
    number = find_deed(over.lower, body[1])
    takes = over.lower[1][number][1]
    if not takes:
        return [over.done_below(number, ())] * many
    handed = wanted_columns(body[2], takes, columns, many)
    return [over.done_below(number, things) for things in zip(*handed)]


def column_behind(over, body, columns, told, wants):
    """For each way what the body behind a call gives, by what the call brings; None where that is refused."""
    going = [way for way, thing in enumerate(told) if thing is not None]
    kept = [[[column[way] for way in going] for column in thing] for thing in columns]
    kept.append([[told[way] for way in going]])
    given = [None] * len(told)
    for at, fields in zip(going, column_over(over, body, kept, len(going), wants)):
        given[at] = fields
    return given


def column_over(over, body, columns, many, wants):
    """For each way the tuple of the fields that a body gives; None where it is refused."""
    if body[0] == "refuse":
        return [None] * many
    if body[0] == "give":
        fields = wanted_columns(body[1], wants, columns, many)
        return list(zip(*fields))
    if body[0] == "when":
        condition = column_of(body[1], columns, many)
        first = column_over(over, body[2], columns, many, wants)
        return chosen(condition, first, column_over(over, body[3], columns, many, wants))
    return column_behind(over, body[3], columns, called_column(over, body, columns, many), wants)


def told_over(over, number, ways, things):
    """What an upper deed gives for each way: worths over the making, or numbers; None where it is refused."""
    if not ways:
        return []
    takes, gives = over.upper[1][number][1:]
    columns = handed_columns(takes, ways, things)
    given = column_over(over, over.body_for(number), columns, len(ways), over.fields_of(gives))
    if isinstance(gives, int):
        return [None if fields is None else fields[0] for fields in given]
    return given
