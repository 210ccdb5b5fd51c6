import itertools
import random
import unittest

from sameface.answering import parts_at, run
from sameface.doing import done
from sameface.errors import BadInput, BadMaking, BadProgram
from sameface.facetext import read_face
from sameface.makings import is_making
from sameface.makingtext import read_making
from sameface.related import is_same
from tests.helpers import ODD_THINGS, FieldsCase, chance_making, chance_program, deep_thing, with_more
from tests.test_programs import let, name, number, pick, put, say
from tests.test_related import BITS, BOX, FULL, MARKED, ODD, WHOLE

# Handed two numbers it tells of them, and refuses where both are one.
ASK = read_face("hidden a\ntell 9 9 9 : 9\nunlike 9 9 : 9")
ASK_MAKING = read_making(ASK, "shape a 2\ntell give in 0 0\nunlike when same in 0 0 in 1 0 refuse give in 0 0")

USES = (("x", BOX), ("y", BOX), ("ask", ASK))
MAKINGS = (WHOLE, FULL, ASK_MAKING)
TWO_BOXES = (let("a", "x", "new"), let("b", "y", "new"))


def plain_run(program, makings, inputs):
    """The answers as the document says them."""
    uses, kinds, rows = program
    by_label = {label: (face, making) for (label, face), making in zip(uses, makings)}
    named, said = {}, []

    def value(arg):
        return {"name": named.get, "number": int, "input": dict(enumerate(inputs)).get}[arg[0]](arg[1])

    for at, row in enumerate(rows):
        if row[0] == "say":
            said.append(value(row[1]))
        elif row[0] == "pick":
            named[row[1]] = value(row[3]) if value(row[2]) else value(row[4])
        else:
            face, making = by_label[row[2]]
            given = done(face, making, row[3], tuple(value(arg) for arg in row[4]))
            if given is None:
                return (tuple(said), at)
            named[row[1]] = given
    return (tuple(said), None)


def with_a_body(rng, face, making):
    """A making with another chance body, or some."""
    other = chance_making(rng, face)
    if other[0] != making[0]:
        return other
    at = rng.randrange(len(making[1]))
    return (making[0], making[1][:at] + other[1][at : at + 1] + making[1][at + 1 :])


class RunTest(FieldsCase):
    def answers(self, told, *rows, inputs=(), kinds=(), makings=MAKINGS):
        self.same_form(run((USES, kinds, rows), makings, inputs), told)

    def test_no_rows(self):
        self.answers(((), None))
        self.answers(((), None), inputs=(1, 2, 8), kinds=(2, 3, 9))

    def test_what_is_said(self):
        self.answers(((0, 8, 8), None), say(number(0)), say(number(8)), say(number(8)))
        self.answers(((1, 2, 8), None), say(put(0)), say(put(1)), say(put(2)), inputs=(1, 2, 8), kinds=(2, 3, 9))

    def test_labels_with_one_face(self):
        rows = [*TWO_BOXES]
        for at, (label, box) in enumerate((("x", "a"), ("y", "b"))):
            rows.append(let(f"{label}a", label, "add", name(box), number(2)))
            rows.append(let(f"{label}n", label, "see", name(f"{label}a")))
            rows.append(say(name(f"{label}n")))
        self.answers(((2, 2), None), *rows)
        # The first goes on from 0, the second refuses what is above 3.
        more = (let("f", "x", "add", name("xa"), number(2)), let("g", "x", "see", name("f")), say(name("g")))
        self.answers(((2, 2, 0), None), *rows, *more)
        more = (let("f", "y", "add", name("ya"), number(2)), let("g", "y", "see", name("f")), say(name("g")))
        self.answers(((2, 2), 8), *rows, *more)
        # By the other making each.
        self.answers(((2, 2, 0), None), *rows, *more, makings=(FULL, WHOLE, ASK_MAKING))

    def test_picks(self):
        for first, told in ((0, 4), (1, 3), (8, 3)):
            self.answers(((told,), None), pick("p", number(first), number(3), number(4)), say(name("p")))
            rows = (pick("p", put(0), number(3), number(4)), say(name("p")))
            self.answers(((told,), None), *rows, inputs=(first,), kinds=(9,))
        worths = (
            let("a", "x", "new"),
            let("b", "x", "add", name("a"), number(1)),
            pick("p", put(0), name("a"), name("b")),
            let("n", "x", "see", name("p")),
            pick("q", name("n"), name("n"), number(7)),
            say(name("n")),
            say(name("q")),
        )
        self.answers(((1, 1), None), *worths, inputs=(0,), kinds=(2,))
        self.answers(((0, 7), None), *worths, inputs=(1,), kinds=(2,))

    def test_refused(self):
        refused = let("r", "ask", "unlike", number(3), number(3))
        self.answers(((), 0), refused, say(number(1)))
        self.answers(((1,), 1), say(number(1)), refused, say(number(2)))
        self.answers(((1, 2), 2), say(number(1)), say(number(2)), refused)
        rows = (let("r", "ask", "unlike", put(0), put(1)), say(name("r")))
        for one, other in itertools.product(range(3), repeat=2):
            told = ((), 0) if one == other else ((one,), None)
            self.answers(told, *rows, inputs=(one, other), kinds=(3, 3))

    def test_first_of_two_refusals(self):
        refused = let("r", "ask", "unlike", number(3), number(3))
        again = let("s", "ask", "unlike", number(3), number(3))
        self.answers(((), 0), refused, again)

    def test_as_the_document_says(self):
        rng = random.Random(63)
        ended = 0
        for step in range(300):
            program = chance_program(rng)
            makings = tuple(chance_making(rng, face) for label, face in program[0])
            for inputs in itertools.product(*[range(kind) for kind in program[1]]):
                told = plain_run(program, makings, inputs)
                self.same_form(run(program, makings, inputs), told)
                ended += told[1] is not None
        self.assertGreater(ended, 50)


class RefusedTest(FieldsCase):
    program = (USES, (2, 9), (say(put(0)),))

    def test_no_program(self):
        nothing = {"row": None, "place": None}
        for thing in (*ODD_THINGS, 0, "abc", (), deep_thing(50000)[:2]):
            self.refuses(BadProgram, nothing, run, thing, thing, thing)
            self.refuses(BadProgram, nothing, parts_at, thing, thing, thing)
        bad = (USES, (), (say(put(0)),))
        self.refuses(BadProgram, {"row": 0, "place": 0}, run, bad, None, None)
        self.refuses(BadProgram, {"row": 0, "place": 0}, parts_at, bad, None, None)

    def test_no_makings(self):
        nothing = {"part": None, "number": None}
        many = (*ODD_THINGS, 0, "abc", (), MAKINGS[:2], (*MAKINGS, WHOLE), list(MAKINGS), deep_thing(50000)[:2])
        for thing in many:
            self.refuses(BadMaking, nothing, run, self.program, thing, None)
            self.refuses(BadMaking, nothing, parts_at, self.program, thing, MAKINGS)
            self.refuses(BadMaking, nothing, parts_at, self.program, MAKINGS, thing)
        shapes, bodies = WHOLE
        for thing, part, at in (
            (None, None, None),
            ((None, None), "shapes", None),
            ((shapes, ()), "bodies", None),
            ((((1,),), bodies), "shapes", 0),
            ((shapes, (*bodies[:2], None)), "bodies", 2),
            (ASK_MAKING, "bodies", None),
        ):
            fields = {"part": part, "number": at}
            for place in range(2):
                row = tuple(thing if number == place else making for number, making in enumerate(MAKINGS))
                self.refuses(BadMaking, fields, run, self.program, row, None)
                self.refuses(BadMaking, fields, parts_at, self.program, row, None)
                self.refuses(BadMaking, fields, parts_at, self.program, MAKINGS, row)
            # The first one that is none.
            self.refuses(BadMaking, fields, run, self.program, (WHOLE, thing, 7), None)
            self.refuses(BadMaking, fields, parts_at, self.program, (WHOLE, thing, 7), ())
        self.refuses(BadMaking, {"part": "bodies", "number": None}, run, self.program, (WHOLE, WHOLE, WHOLE), None)

    def test_no_inputs(self):
        for thing in (*ODD_THINGS, 0, "ab", (), (1,), (1, 2, 3), [1, 2], deep_thing(50000)):
            self.refuses(BadInput, {"number": None}, run, self.program, MAKINGS, thing)
        for thing in (*ODD_THINGS, -1, 9, "1", (1,), 10**5000, deep_thing(50000)):
            self.refuses(BadInput, {"number": 1}, run, self.program, MAKINGS, (1, thing))
            self.refuses(BadInput, {"number": 0}, run, self.program, MAKINGS, (thing, thing))
        self.refuses(BadInput, {"number": 0}, run, self.program, MAKINGS, (2, 9))
        self.same_form(run(self.program, MAKINGS, (1, 8)), ((1,), None))
        self.refuses(BadInput, {"number": None}, run, (USES, (), ()), MAKINGS, (0,))


class PartsTest(FieldsCase):
    def parts(self, told, kinds, rows, ones, others):
        self.same_form(parts_at((USES, kinds, rows), ones, others), told)

    def test_of_same_makings(self):
        rows = (
            *TWO_BOXES,
            let("c", "x", "add", name("a"), put(0)),
            let("d", "x", "add", name("c"), put(1)),
            let("n", "x", "see", name("d")),
            say(name("n")),
        )
        for one, other in itertools.product((WHOLE, BITS, MARKED), repeat=2):
            self.parts(None, (3, 3), rows, (one, FULL, ASK_MAKING), (other, FULL, ASK_MAKING))

    def test_the_least_inputs(self):
        rows = (
            *TWO_BOXES,
            let("c", "x", "add", name("a"), put(0)),
            let("d", "x", "add", name("c"), put(1)),
            let("n", "x", "see", name("d")),
            say(name("n")),
        )
        # By what is said: 3 is seen as 4 by the other making; by where it ends: 4 is refused by it.
        self.parts((1, 2), (3, 3), rows, MAKINGS, (ODD, FULL, ASK_MAKING))
        self.parts((2, 2), (3, 3), rows, MAKINGS, (FULL, FULL, ASK_MAKING))
        self.parts((1, 2), (3, 3), rows, (ODD, FULL, ASK_MAKING), MAKINGS)
        self.parts(None, (2, 3), rows, MAKINGS, (FULL, FULL, ASK_MAKING))
        self.parts((1, 2, 0), (2, 3, 2), rows, MAKINGS, (ODD, FULL, ASK_MAKING))

    def test_where_it_ends(self):
        # Nothing is said, but it ends at another row.
        rows = (*TWO_BOXES, let("c", "x", "add", name("a"), put(0)), let("d", "x", "add", name("c"), number(2)))
        self.parts((2,), (3,), rows, MAKINGS, (FULL, FULL, ASK_MAKING))
        other = read_making(BOX, "shape box 2\nadd give 0\nnew refuse\nsee give 0")
        refuses = (let("r", "ask", "unlike", number(0), number(0)),)
        lenient = read_making(ASK, "shape a 2\ntell give 0\nunlike give 0")
        self.parts((), (), (*refuses, *TWO_BOXES), MAKINGS, (WHOLE, FULL, lenient))
        self.parts(None, (), (*refuses, *TWO_BOXES), MAKINGS, (other, other, ASK_MAKING))
        self.parts((), (), TWO_BOXES, MAKINGS, (WHOLE, other, ASK_MAKING))

    def test_no_inputs(self):
        self.parts(None, (), (), MAKINGS, (ODD, ODD, ASK_MAKING))
        rows = (let("t", "ask", "tell", number(3), number(4), number(0)), say(name("t")))
        second = read_making(ASK, "shape a 2\ntell give in 1 0\nunlike refuse")
        self.parts((), (), rows, MAKINGS, (WHOLE, FULL, second))

    def test_729_inputs(self):
        rows = [let("t", "ask", "tell", put(0), put(1), put(2)), say(name("t"))]
        for at in range(28):
            word = "abcdefghijklmnopqrstuvwxyz"[at % 26] + "x" * (at // 26 + 1)
            rows.append(let(word, "ask", "tell", put(0), put(1), put(2)))
        last = read_making(
            ASK, "shape a 2\ntell give if same plus plus in 0 0 in 1 0 in 2 0 24 0 in 0 0\nunlike refuse"
        )
        self.parts((8, 8, 8), (9, 9, 9), tuple(rows), MAKINGS, (WHOLE, FULL, last))
        self.parts(None, (9, 9, 9), tuple(rows), MAKINGS, (ODD, ODD, ASK_MAKING))

    def test_as_the_document_says(self):
        rng = random.Random(66)
        found = 0
        for step in range(400):
            program = chance_program(rng, 20)
            makings = tuple(chance_making(rng, face) for label, face in program[0])
            others = tuple(
                making if rng.random() < 0.5 else with_a_body(rng, face, making)
                for making, (label, face) in zip(makings, program[0])
            )
            told = None
            for inputs in itertools.product(*[range(kind) for kind in program[1]]):
                if told is None and plain_run(program, makings, inputs) != plain_run(program, others, inputs):
                    told = inputs
            found += told is not None and any(told)
            self.same_form(parts_at(program, makings, others), told)
        self.assertGreater(found, 5)

    def test_same_makings_have_same_answers(self):
        rng = random.Random(67)
        same = 0
        for step in range(150):
            program = chance_program(rng)
            makings = tuple(chance_making(rng, face) for label, face in program[0])
            others = []
            for making, (label, face) in zip(makings, program[0]):
                other = with_more(rng, face, making, 0)
                fits = is_making(face, other) and is_same(face, making, other)
                others.append(other if fits else making)
            same += tuple(others) != makings
            self.assertIsNone(parts_at(program, makings, tuple(others)))
        self.assertGreater(same, 50)


if __name__ == "__main__":
    unittest.main()
