"""A making's text, written and read."""

from sameface.exprs import INNER_COUNTS, MOST_DEEP, MOST_PARTS
from sameface.faces import need_face
from sameface.makings import bounds_for, field_counts, is_shape, need_making
from sameface.rows import need_no_more, row_at, rows_of
from sameface.words import is_whole, number_of


def given_words(expressions):
    """The words behind a "give"."""
    words = words_in(expressions[0])
    for expression in expressions[1:]:
        words.append(",")
        words.extend(words_in(expression))
    return words


def words_in(part):
    """The words of an E or a body."""
    if part[0] == "number":
        return [str(part[1])]
    words = [part[0]]
    if part[0] == "give":
        words.extend(given_words(part[1]))
        return words
    for thing in part[1:]:
        words.extend([str(thing)] if is_whole(thing) else words_in(thing))
    return words


def making_text(face, making):
    """The text of a making."""
    need_making(face, making)
    rows = []
    for kind, shape in zip(face[0], making[0]):
        rows.append(" ".join(["shape", kind] + [str(bound) for bound in shape]))
    for deed, body in zip(face[1], making[1]):
        rows.append(" ".join([deed[0]] + words_in(body)))
    return "\n".join(rows)


class BodyReader:
    """Reads a deed's body from its row, and counts the parts that begin in it."""

    def __init__(self, row, counts, many):
        self.row = row
        self.counts = counts
        self.many = many
        self.parts = 0

    def begin_part(self, deep, stands):
        """Go by the first word of a part; refused where it can't stand, or the part is one too many or too deep."""
        self.parts += 1
        return self.row.take(stands and self.parts <= MOST_PARTS and deep <= MOST_DEEP)

    def read_body(self, deep):
        """A body that is so deep within the whole one."""
        word = self.begin_part(deep, self.row.seen() in ("give", "refuse", "when"))
        if word == "refuse":
            return ("refuse",)
        if word == "give":
            return ("give", self.read_given(deep + 1))
        condition = self.read_expression(deep + 1)
        first = self.read_body(deep + 1)
        return ("when", condition, first, self.read_body(deep + 1))

    def read_given(self, deep):
        """The Es behind a "give"."""
        given = [self.read_expression(deep)]
        while len(given) < self.many:
            self.row.take_word(",")
            given.append(self.read_expression(deep))
        return tuple(given)

    def read_expression(self, deep):
        """An E that is so deep within the whole body."""
        word = self.row.seen()
        number = number_of(word)
        self.begin_part(deep, number is not None or word in ("in", "rest") or word in INNER_COUNTS)
        if number is not None:
            return ("number", number)
        if word == "in":
            return self.read_in()
        first = self.read_expression(deep + 1)
        if word == "rest":
            return ("rest", first, self.row.take_number(2, 99))
        inner = [first]
        while len(inner) < INNER_COUNTS[word]:
            inner.append(self.read_expression(deep + 1))
        return (word, *inner)

    def read_in(self):
        """An E of what is handed in, behind its word "in"."""
        thing = self.row.take_number(0, len(self.counts) - 1)
        return ("in", thing, self.row.take_number(0, self.counts[thing] - 1))


def read_shape(row, kind):
    """The shape of a hidden kind, read from its row."""
    row.take_word("shape")
    row.take_word(kind)
    shape = ()
    while not shape or row.seen() is not None:
        more = (*shape, number_of(row.seen()))
        row.take(is_shape(more))
        shape = more
    return shape


def read_deed_body(row, face, shapes, deed):
    """The body of a deed, read from its row."""
    name, takes, gives = deed
    row.take_word(name)
    many = len(bounds_for(face, shapes, gives))
    body = BodyReader(row, field_counts(face, shapes, takes), many).read_body(1)
    row.close()
    return body


def read_making(face, text):
    """The making of a face by its text."""
    need_face(face)
    hidden, deeds = face
    rows = rows_of(text)
    shapes = []
    for kind in hidden:
        shapes.append(read_shape(row_at(rows, len(shapes) + 1), kind))
    bodies = []
    for deed in deeds:
        row = row_at(rows, len(shapes) + len(bodies) + 1)
        bodies.append(read_deed_body(row, face, shapes, deed))
    need_no_more(rows, len(shapes) + len(bodies))
    return (tuple(shapes), tuple(bodies))
