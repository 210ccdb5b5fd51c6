"""A making's text, written and read."""

from sameface.exprs import INNER_COUNTS, MOST_DEEP, MOST_PARTS
from sameface.faces import need_face
from sameface.makings import field_counts, is_shape, need_making
from sameface.rows import need_no_more, row_at, rows_of
from sameface.words import number_of


def expression_text(expression):
    """The words of an E, or of a W."""
    word = expression[0]
    if word == "number":
        return str(expression[1])
    if word == "in":
        return f"in {expression[1]} {expression[2]}"
    if word == "got":
        return f"got {expression[1]}"
    first = expression_text(expression[1])
    if word == "rest":
        return f"rest {first} {expression[2]}"
    if word == "if":
        return f"if {first} {expression_text(expression[2])} {expression_text(expression[3])}"
    return f"{word} {first} {expression_text(expression[2])}"


def parted_text(expressions):
    """The words of some Es and Ws, "," between."""
    return " , ".join([expression_text(expression) for expression in expressions])


def body_text(body):
    """The words of a body, of a making or of a module."""
    if body[0] == "refuse":
        return "refuse"
    if body[0] == "give":
        return f"give {parted_text(body[1])}"
    if body[0] == "when":
        return f"when {expression_text(body[1])} {body_text(body[2])} {body_text(body[3])}"
    handed = f" {parted_text(body[2])}" if body[2] else ""
    return f"call {body[1]}{handed} {body_text(body[3])}"


def field_text(field):
    """The words of a field: of a bound, or of ("of", KIND)."""
    return str(field) if isinstance(field, int) else f"of {field[1]}"


def making_rows(face, making):
    """The rows of the text of a right making of a face, or of a right module of it, a list."""
    rows = []
    for kind, shape in zip(face[0], making[0]):
        rows.append(" ".join(["shape", kind] + [field_text(field) for field in shape]))
    for deed, body in zip(face[1], making[1]):
        rows.append(f"{deed[0]} {body_text(body)}")
    return rows


def making_text(face, making):
    """The text of a making."""
    need_making(face, making)
    return "\n".join(making_rows(face, making))


class BodyReader:
    """Reads a deed's body from its row, and counts the parts that begin in it."""

    def __init__(self, row, counts, many):
        self.row = row
        self.counts = counts
        self.many = many
        self.parts = 0

    def begin_part(self, deep, stands):
        """Go by the first word of a part; refused where it can't stand, or the part is one too many or too deep."""
        self.parts += 1
        self.row.take(stands and self.parts <= MOST_PARTS and deep <= MOST_DEEP)

    def read_body(self, deep):
        """A body that is so deep within the whole one."""
        word = self.row.seen()
        self.begin_part(deep, word in ("give", "refuse", "when"))
        if word == "refuse":
            return ("refuse",)
        if word == "give":
            return ("give", self.read_given(deep + 1))
        condition = self.read_expression(deep + 1)
        first = self.read_body(deep + 1)
        return ("when", condition, first, self.read_body(deep + 1))

    def read_given(self, deep):
        """The Es behind a "give"."""
        given = [self.read_expression(deep)]
        while len(given) < self.many:
            self.row.take_word(",")
            given.append(self.read_expression(deep))
        return tuple(given)

    def read_in(self):
        """What stands behind "in", where an E is wanted."""
        thing = self.row.take_number(0, len(self.counts) - 1)
        return ("in", thing, self.row.take_number(0, self.counts[thing] - 1))

    def read_expression(self, deep):
        """An E that is so deep within the whole body."""
        word = self.row.seen()
        if word == "in":
            self.begin_part(deep, True)
            return self.read_in()
        if word == "rest":
            self.begin_part(deep, True)
            first = self.read_expression(deep + 1)
            return ("rest", first, self.row.take_number(2, 99))
        if word in INNER_COUNTS:
            self.begin_part(deep, True)
            inner = [self.read_expression(deep + 1) for place in range(INNER_COUNTS[word])]
            return (word, *inner)
        number = number_of(word)
        self.begin_part(deep, number is not None)
        return ("number", number)


def read_shape(row, kind):
    """The shape of a hidden kind, read from its row."""
    row.take_word("shape")
    row.take_word(kind)
    shape = ()
    while not shape or row.seen() is not None:
        more = (*shape, number_of(row.seen()))
        row.take(is_shape(more))
        shape = more
    return shape


def read_deed_body(row, deed, counts):
    """The body of a deed, read from its row, by how many fields hidden kinds have."""
    name, takes, gives = deed
    row.take_word(name)
    body = BodyReader(row, [counts.get(kind, 1) for kind in takes], counts.get(gives, 1)).read_body(1)
    row.close()
    return body


def read_making_of(face, text):
    """The making of a right face by its text."""
    hidden, deeds = face
    rows = rows_of(text)
    shapes = []
    for kind in hidden:
        shapes.append(read_shape(row_at(rows, len(shapes) + 1), kind))
    counts = field_counts(hidden, shapes)
    bodies = []
    for deed in deeds:
        row = row_at(rows, len(shapes) + len(bodies) + 1)
        bodies.append(read_deed_body(row, deed, counts))
    need_no_more(rows, len(shapes) + len(bodies))
    return (tuple(shapes), tuple(bodies))


def read_making(face, text):
    """The making of a face by its text."""
    need_face(face)
    return read_making_of(face, text)
