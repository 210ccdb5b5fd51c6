"""A module's text, written and read."""

from sameface.calls import told_as_field
from sameface.faces import find_deed
from sameface.makings import bounds_for
from sameface.makingtext import BodyReader, making_rows
from sameface.modules import are_fields, need_faces, need_module
from sameface.rows import need_no_more, row_at, rows_of
from sameface.words import is_below, number_of

# A number where one is wanted: of whatever bound it is.
NUMBER = 0


def module_text(upper, lower, module):
    """The text of a module."""
    need_module(upper, lower, module)
    return "\n".join(making_rows(upper, module))


def is_of_wanted(field, wanted):
    """Whether a field, or what a call brings, is what is wanted: a number, or a worth of that kind."""
    return field == wanted or (isinstance(field, int) and isinstance(wanted, int))


class CallingReader(BodyReader):
    """Reads a module's body from its row; got has what each call around brings."""

    def __init__(self, row, room, wants, lower):
        BodyReader.__init__(self, row, [len(fields) for fields in room], len(wants))
        self.room = room
        self.wants = wants
        self.lower = lower
        self.got = []

    def read_body(self, deep):
        """A body that is so deep within the whole one."""
        if self.row.seen() != "call":
            return super().read_body(deep)
        self.begin_part(deep, True)
        number = find_deed(self.lower, self.row.seen())
        name = self.row.take(number is not None)
        takes, gives = self.lower[1][number][1:]
        args = self.read_wanted([told_as_field(kind) for kind in takes], deep + 1)
        self.got.append(told_as_field(gives))
        behind = self.read_body(deep + 1)
        self.got.pop()
        return ("call", name, args, behind)

    def read_given(self, deep):
        """The Es and Ws behind a "give"."""
        return self.read_wanted(self.wants, deep)

    def read_wanted(self, wants, deep):
        """The Es and Ws that are wanted, "," between two of them."""
        told = []
        for wanted in wants:
            if told:
                self.row.take_word(",")
            told.append(self.read_expression(deep) if isinstance(wanted, int) else self.read_worth(wanted, deep))
        return tuple(told)

    def read_worth(self, wanted, deep):
        """A W of the kind that is wanted."""
        word = self.row.seen()
        self.begin_part(deep, word in ("in", "got"))
        return self.read_field(wanted) if word == "in" else self.read_got(wanted)

    def read_expression(self, deep):
        """An E that is so deep within the whole body."""
        if self.row.seen() != "got":
            return super().read_expression(deep)
        self.begin_part(deep, True)
        return self.read_got(NUMBER)

    def read_in(self):
        """What stands behind "in", where an E is wanted."""
        return self.read_field(NUMBER)

    def read_field(self, wanted):
        """What stands behind "in": a thing that has a field of what is wanted, and such a field."""
        thing = number_of(self.row.seen())
        fields = self.room[thing] if is_below(thing, len(self.room)) else ()
        self.row.take(any([is_of_wanted(field, wanted) for field in fields]))
        number = number_of(self.row.seen())
        self.row.take(is_below(number, len(fields)) and is_of_wanted(fields[number], wanted))
        return ("in", thing, number)

    def read_got(self, wanted):
        """What stands behind "got": the number of a call around that brings what is wanted."""
        call = number_of(self.row.seen())
        self.row.take(is_below(call, len(self.got)) and is_of_wanted(self.got[call], wanted))
        return ("got", call)


def read_fields(row, kind, hidden):
    """The shape of an upper hidden kind, read from its row, over these lower hidden kinds."""
    row.take_word("shape")
    row.take_word(kind)
    shape = ()
    while not shape or row.seen() is not None:
        if row.seen() == "of":
            row.take(len(shape) < 3)
            field = ("of", row.seen())
        else:
            field = number_of(row.seen())
        more = (*shape, field)
        row.take(are_fields(more, hidden))
        shape = more
    return shape


def read_calling(row, deed, upper, lower, shapes):
    """The body of an upper deed, read from its row."""
    name, takes, gives = deed
    row.take_word(name)
    room = [bounds_for(upper, shapes, kind) for kind in takes]
    body = CallingReader(row, room, bounds_for(upper, shapes, gives), lower).read_body(1)
    row.close()
    return body


def read_module(upper, lower, text):
    """The module of a face over another by its text."""
    need_faces(upper, lower)
    hidden, deeds = upper
    rows = rows_of(text)
    shapes = []
    for kind in hidden:
        shapes.append(read_fields(row_at(rows, len(shapes) + 1), kind, lower[0]))
    bodies = []
    for deed in deeds:
        row = row_at(rows, len(shapes) + len(bodies) + 1)
        bodies.append(read_calling(row, deed, upper, lower, shapes))
    need_no_more(rows, len(shapes) + len(bodies))
    return (tuple(shapes), tuple(bodies))
