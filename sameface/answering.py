"""Programs run by makings: their answers, and where those of two rows of makings part."""

from sameface.doing import done_rightly
from sameface.errors import BadInput, BadMaking
from sameface.faces import find_deed
from sameface.kinds import need_program
from sameface.makings import refuse_no_making
from sameface.ways import all_ways
from sameface.words import is_below, is_tuple_of


def need_all_makings(uses, makings):
    """Refuse what is no tuple with a making for each of right USES."""
    if not is_tuple_of(makings, len(uses), len(uses)):
        raise BadMaking(None, None)
    for (label, face), making in zip(uses, makings):
        refuse_no_making(face, making)


def need_inputs(kinds, inputs):
    """Refuse what is no tuple with a number of each of these kinds."""
    if not is_tuple_of(inputs, len(kinds), len(kinds)):
        raise BadInput(None)
    for number, kind in enumerate(kinds):
        if not is_below(inputs[number], kind):
            raise BadInput(number)


def value_of_arg(arg, named, inputs):
    """What an ARG is, by what is named so far and what is put in."""
    word, told = arg
    if word == "name":
        return named[told]
    return told if word == "number" else inputs[told]


class Runs:
    """Runs of a right program by right makings."""

    def __init__(self, program, makings):
        self.rows = program[2]
        self.pairs = {label: (face, making) for (label, face), making in zip(program[0], makings)}
        # What deeds gave: with other inputs they are most often asked of the same again.
        self.given = {}

    def done_by(self, label, deed, handed):
        """What a deed gives, None where it refuses."""
        key = (label, deed, handed)
        if key not in self.given:
            face, making = self.pairs[label]
            self.given[key] = done_rightly(face, making, find_deed(face, deed), handed)
        return self.given[key]

    def run_with(self, inputs):
        """The ANSWERS: what is said, and the number of the row that ended it, or None."""
        named = {}
        said = []
        for number, row in enumerate(self.rows):
            if row[0] == "say":
                said.append(value_of_arg(row[1], named, inputs))
            elif row[0] == "pick":
                chosen = row[3] if value_of_arg(row[2], named, inputs) != 0 else row[4]
                named[row[1]] = value_of_arg(chosen, named, inputs)
            else:
                handed = tuple([value_of_arg(arg, named, inputs) for arg in row[4]])
                told = self.done_by(row[2], row[3], handed)
                if told is None:
                    return (tuple(said), number)
                named[row[1]] = told
        return (tuple(said), None)


def run(program, makings, inputs):
    """The ANSWERS of a program by makings, one for each of its USES, and by what is put in."""
    need_program(program)
    need_all_makings(program[0], makings)
    need_inputs(program[1], inputs)
    return Runs(program, makings).run_with(inputs)


def parts_at(program, makings, others):
    """The least inputs by which two rows of makings have unlike ANSWERS, None where there are none."""
    need_program(program)
    need_all_makings(program[0], makings)
    need_all_makings(program[0], others)
    ones = Runs(program, makings)
    beside = Runs(program, others)
    for inputs in all_ways(program[1]):
        if ones.run_with(inputs) != beside.run_with(inputs):
            return inputs
    return None
