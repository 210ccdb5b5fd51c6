"""Programs, and the kinds of what they name."""

from sameface.errors import BadProgram
from sameface.faces import find_deed, is_face
from sameface.programs import MOST_INPUTS, MOST_ROWS, MOST_USES, is_arg, is_row_of_things
from sameface.words import is_among, is_name, is_tuple_of, is_whole


class Looked:
    """What is known of a program as its rows are looked at, one by one: the kinds of all that is named so far."""

    def __init__(self, uses, inputs):
        self.faces = dict(uses)
        self.inputs = inputs
        self.kinds = {}

    def kind_of_arg(self, thing):
        """The kind of anything that is an ARG there: a number, or (LABEL, KIND) of a hidden one; else None."""
        if not is_arg(thing):
            return None
        word, told = thing
        if word == "number":
            return told + 1
        if word == "name":
            return self.kinds.get(told)
        return self.inputs[told] if told < len(self.inputs) else None

    def is_plain(self, thing):
        """Whether anything is an ARG of a plain kind."""
        return is_whole(self.kind_of_arg(thing))

    def may_stand_for(self, thing, label, kind):
        """Whether anything is an ARG that a deed of a label may be handed for a kind."""
        told = self.kind_of_arg(thing)
        if is_whole(kind):
            return is_whole(told) and told <= kind
        return told == (label, kind)

    def is_new_name(self, thing):
        """Whether anything is a name that isn't told yet."""
        return is_name(thing) and thing not in self.kinds

    def place_in_let(self, row):
        """The first thing behind "let" that can't stand, from 0; None where all can: then the name has its kind."""
        name, label, deed, args = row[1:]
        if not self.is_new_name(name):
            return 0
        if not is_name(label) or label not in self.faces:
            return 1
        face = self.faces[label]
        number = find_deed(face, deed)
        if number is None:
            return 2
        takes, gives = face[1][number][1:]
        if not is_tuple_of(args, len(takes), len(takes)):
            return 3
        for place, kind in enumerate(takes):
            if not self.may_stand_for(args[place], label, kind):
                return 4 + place
        self.kinds[name] = gives if is_whole(gives) else (label, gives)
        return None

    def place_in_pick(self, row):
        """The first thing behind "pick" that can't stand, as of a let."""
        name, condition, first, second = row[1:]
        if not self.is_new_name(name):
            return 0
        if not self.is_plain(condition):
            return 1
        one = self.kind_of_arg(first)
        if one is None:
            return 2
        other = self.kind_of_arg(second)
        if is_whole(one) and is_whole(other):
            self.kinds[name] = max(one, other)
        elif one == other:
            self.kinds[name] = one
        else:
            return 3
        return None

    def place_in(self, row):
        """The first thing behind the word of a row that can't stand, from 0; None where all can."""
        if row[0] == "let":
            return self.place_in_let(row)
        if row[0] == "pick":
            return self.place_in_pick(row)
        return None if self.is_plain(row[1]) else 0


def first_bad_use(uses):
    """The number of the first thing that is no (LABEL, FACE), or has a LABEL told ahead; None where there is none."""
    labels = []
    for number, use in enumerate(uses):
        if not is_tuple_of(use, 2, 2) or not is_name(use[0]) or use[0] in labels or not is_face(use[1]):
            return number
        labels.append(use[0])
    return None


def first_bad_input(inputs):
    """The number of the first thing that is no plain kind, or None."""
    for number, kind in enumerate(inputs):
        if not is_among(kind, 2, 9):
            return number
    return None


def need_parts(program):
    """Refuse what is no tuple of three, or one whose USES or INPUTS can't be, or ROWS are no tuple of so many."""
    if not is_tuple_of(program, 3, 3):
        raise BadProgram(None, None)
    uses, inputs, rows = program
    if not is_tuple_of(uses, 1, MOST_USES):
        raise BadProgram("uses", None)
    if not is_tuple_of(inputs, 0, MOST_INPUTS):
        raise BadProgram("inputs", None)
    if not is_tuple_of(rows, 0, MOST_ROWS):
        raise BadProgram("rows", None)
    number = first_bad_use(uses)
    if number is not None:
        raise BadProgram("uses", number)
    number = first_bad_input(inputs)
    if number is not None:
        raise BadProgram("inputs", number)


def kinds_by_name(program):
    """The kind of each name that a program tells, a dict in the rows' order; refused is what is no program."""
    need_parts(program)
    uses, inputs, rows = program
    looked = Looked(uses, inputs)
    for number, row in enumerate(rows):
        if not is_row_of_things(row):
            raise BadProgram(number, None)
        place = looked.place_in(row)
        if place is not None:
            raise BadProgram(number, place)
    return looked.kinds


def need_program(program):
    """Refuse what is no program."""
    kinds_by_name(program)


def is_program(program):
    """Whether anything is a program."""
    try:
        kinds_by_name(program)
    except BadProgram:
        return False
    return True


def kinds_in(program):
    """(NAME, KIND) of all that is named, row by row."""
    return list(kinds_by_name(program).items())
