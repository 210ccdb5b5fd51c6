"""The refusals: each straight under FaceError, with its fields."""


def shown(field):
    """A field as messages tell it; of anything."""
    # Python writes no number of thousands of figures, and a message must never be why a refusal can't be made.
    if isinstance(field, int) and not -1000 < field < 1000:
        return "a great number"
    if isinstance(field, (int, str)):
        return str(field)
    return "none" if field is None else "a thing"


class FaceError(ValueError):
    """Any refusal."""


class BadRow(FaceError):
    """A text can't be read: the row and the word, both from 1."""

    def __init__(self, row, word):
        super().__init__(f"row {shown(row)}, word {shown(word)} can't stand")
        self.row = row
        self.word = word


class BadFace(FaceError):
    """A thing is no face."""

    def __init__(self, part, number):
        super().__init__(f"no face: {shown(part)}, {shown(number)}")
        self.part = part
        self.number = number


class BadMaking(FaceError):
    """A thing is no making of a face."""

    def __init__(self, part, number):
        super().__init__(f"no making: {shown(part)}, {shown(number)}")
        self.part = part
        self.number = number


class BadUser(FaceError):
    """A thing is no user of a face."""

    def __init__(self, row, place):
        super().__init__(f"no user: row {shown(row)}, place {shown(place)}")
        self.row = row
        self.place = place


class BadSteps(FaceError):
    """A thing is no steps for a hidden kind."""

    def __init__(self, number):
        super().__init__(f"no steps: {shown(number)}")
        self.number = number


class BadLead(FaceError):
    """A thing is no good leading."""

    def __init__(self, kind, number):
        super().__init__(f"no good leading: {shown(kind)}, {shown(number)}")
        self.kind = kind
        self.number = number


class BadProgram(FaceError):
    """A thing is no program."""

    def __init__(self, row, place):
        super().__init__(f"no program: row {shown(row)}, place {shown(place)}")
        self.row = row
        self.place = place


class BadModule(FaceError):
    """A thing is no module of one face over another."""

    def __init__(self, part, number):
        super().__init__(f"no module: {shown(part)}, {shown(number)}")
        self.part = part
        self.number = number


class BadUse(FaceError):
    """Things are no uses of a house."""

    def __init__(self, number):
        super().__init__(f"no uses: {shown(number)}")
        self.number = number


class BadInput(FaceError):
    """Things can't be put into a program."""

    def __init__(self, number):
        super().__init__(f"can't be put in: {shown(number)}")
        self.number = number


class ToldApart(FaceError):
    """Two makings aren't the same: a user tells them apart."""

    def __init__(self, user):
        super().__init__("a user tells the makings apart")
        self.user = user


class BadPaper(FaceError):
    """A paper doesn't show what it should."""

    def __init__(self, place):
        told = ", ".join([shown(part) for part in place]) if isinstance(place, tuple) else shown(place)
        super().__init__(f"no right paper: {told}")
        self.place = place


class Refused(FaceError):
    """A deed refuses."""


class OutOfPlace(FaceError):
    """A thing is none of those that can stand there."""


class TooGreat(FaceError):
    """Something would come to be greater than is told of."""
