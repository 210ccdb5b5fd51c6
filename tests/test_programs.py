import random
import unittest

from sameface.errors import BadProgram
from sameface.facetext import read_face
from sameface.kinds import is_program, kinds_in, need_program
from sameface.programs import is_arg, is_row
from tests.helpers import ODD_THINGS, FieldsCase, chance_program, deep_thing, spoilt

# "put" takes a number below 4, "see" tells one below 3.
CELL = read_face("hidden cell\nboth cell cell : cell\nmake : cell\nput cell 4 : cell\nsee cell : 3\nzone 2 3 4 : 9")
PAIR = read_face("hidden left right\nfirst : left\nnear left right : 2\nsecond : right")
USES = (("one", CELL), ("two", CELL), ("three", PAIR))
INPUTS = (4, 5, 2)

NAMES = ("a", "abcdefgh", "let", "say", "pick", "name", "z")
NO_NAMES = (*ODD_THINGS, 0, 1, "", "abcdefghi", "A", "a1", "a b", " a", "$0", (), ("a",), deep_thing(50000))


def name(word):
    return ("name", word)


def number(told):
    return ("number", told)


def put(told):
    return ("input", told)


def let(to, label, deed, *args):
    return ("let", to, label, deed, args)


def say(arg):
    return ("say", arg)


def pick(to, *args):
    return ("pick", to, *args)


class FormTest(FieldsCase):
    def test_args(self):
        for arg in [name(word) for word in NAMES] + [number(told) for told in range(9)] + [put(0), put(1), put(2)]:
            self.assertIs(is_arg(arg), True, arg)

    def test_no_args(self):
        for word in NO_NAMES:
            self.assertIs(is_arg(name(word)), False)
        for told in (-1, 9, 10, 10**40, *ODD_THINGS, "0", (), (0,)):
            self.assertIs(is_arg(number(told)), False, told)
        for told in (-1, 3, 10**40, *ODD_THINGS, "0", (), (0,)):
            self.assertIs(is_arg(put(told)), False, told)
        for thing in (
            *ODD_THINGS,
            0,
            "a",
            "name",
            (),
            ("name",),
            ("name", "a", "a"),
            ["name", "a"],
            ("names", "a"),
            ("a", "name"),
            ("let", "a"),
            ("", "a"),
            (None, "a"),
            (["name"], "a"),
            ({}, 0),
            deep_thing(50000),
        ):
            self.assertIs(is_arg(thing), False, thing)

    def test_rows(self):
        args = (name("a"), number(0), put(2))
        for row in (
            let("a", "b", "c"),
            let("a", "a", "a", args[0]),
            let("abcdefgh", "abcdefgh", "abcdefgh", *args[1:]),
            let("let", "say", "pick", *args),
            pick("a", *args),
            pick("abcdefgh", name("a"), name("a"), name("a")),
            say(name("a")),
            say(number(8)),
            say(put(0)),
        ):
            self.assertIs(is_row(row), True, row)

    def test_no_rows(self):
        arg = name("a")
        for thing in NO_NAMES:
            self.assertIs(is_row(("let", thing, "b", "c", ())), False)
            self.assertIs(is_row(("let", "a", thing, "c", ())), False)
            self.assertIs(is_row(("let", "a", "b", thing, ())), False)
            self.assertIs(is_row(("pick", thing, arg, arg, arg)), False)
            self.assertIs(is_row(("let", "a", "b", "c", (thing,))), False)
            self.assertIs(is_row(("let", "a", "b", "c", (arg, arg, thing))), False)
            for place in range(3):
                self.assertIs(is_row(("pick", "a", *[thing if at == place else arg for at in range(3)])), False)
            self.assertIs(is_row(("say", thing)), False)
            if thing != ():
                self.assertIs(is_row(("let", "a", "b", "c", thing)), False)
            self.assertIs(is_row(thing), False)
            self.assertIs(is_row((thing, arg)), False)
        for row in (
            (),
            ("let", "a", "b", "c", (arg,) * 4),
            ("let", "a", "b", "c", [arg]),
            ("let", "a", "b", "c", arg),
            ("let", "a", "b", "c"),
            ("let", "a", "b", "c", (), ()),
            ("pick", "a", arg, arg),
            ("pick", "a", arg, arg, arg, arg),
            ("say",),
            ("say", arg, arg),
            ("say", "a"),
            ("says", arg),
            ["say", arg],
            ("say", number(9)),
            ("say", put(3)),
            ("say", number(True)),
            ("say", put(False)),
        ):
            self.assertIs(is_row(row), False, row)


class KindsTest(FieldsCase):
    def kinds(self, told, *rows, uses=USES, inputs=INPUTS):
        program = (uses, inputs, rows)
        self.assertIsNone(need_program(program))
        self.assertIs(is_program(program), True)
        self.same_form(kinds_in(program), told)

    def bad(self, row, place, *rows, uses=USES, inputs=INPUTS):
        self.bad_program(row, place, (uses, inputs, rows))

    def bad_program(self, row, place, program):
        self.refuses(BadProgram, {"row": row, "place": place}, need_program, program)
        self.refuses(BadProgram, {"row": row, "place": place}, kinds_in, program)
        self.assertIs(is_program(program), False)

    def test_no_rows(self):
        self.kinds([])
        self.kinds([], inputs=())
        self.kinds([], uses=USES[:1], inputs=(9,))

    def test_lets(self):
        told = [("c", ("one", "cell")), ("d", ("two", "cell")), ("e", ("one", "cell")), ("n", 3)]
        told.append(("l", ("three", "left")))
        self.kinds(
            told,
            let("c", "one", "make"),
            let("d", "two", "make"),
            let("e", "one", "both", name("c"), name("c")),
            let("n", "one", "see", name("e")),
            say(name("n")),
            let("l", "three", "first"),
        )

    def test_numbers_are_of_one_more(self):
        # 3 is the greatest that a deed that takes 4 may be handed.
        for told in range(4):
            self.kinds(
                [("c", ("one", "cell")), ("d", ("one", "cell"))],
                let("c", "one", "make"),
                let("d", "one", "put", name("c"), number(told)),
            )
        for told in range(4, 9):
            self.bad(1, 5, let("c", "one", "make"), let("d", "one", "put", name("c"), number(told)))
        self.kinds([("p", 1)], pick("p", number(1), number(0), number(0)))
        self.kinds([("p", 9)], pick("p", number(1), number(8), number(0)))

    def test_inputs_have_their_kind(self):
        makes = let("c", "one", "make")
        told = [("c", ("one", "cell")), ("d", ("one", "cell"))]
        self.kinds(told, makes, let("d", "one", "put", name("c"), put(0)))
        self.bad(1, 5, makes, let("d", "one", "put", name("c"), put(1)))
        self.kinds(told, makes, let("d", "one", "put", name("c"), put(2)))
        self.bad(1, 5, makes, let("d", "one", "put", name("c"), put(2)), inputs=(4, 5))
        self.bad(1, 5, makes, let("d", "one", "put", name("c"), put(0)), inputs=())

    def test_names_have_that_of_their_row(self):
        ahead = (let("c", "one", "make"), let("n", "one", "see", name("c")))
        told = [("c", ("one", "cell")), ("n", 3)]
        self.kinds([*told, ("d", ("one", "cell"))], *ahead, let("d", "one", "put", name("c"), name("n")))
        self.kinds([*told, ("z", 9)], *ahead, let("z", "one", "zone", number(1), name("n"), name("n")))
        self.bad(2, 4, *ahead, let("z", "one", "zone", name("n"), name("n"), name("n")))
        # A name of 9 is greater than 4 is.
        self.bad(
            3,
            5,
            *ahead,
            let("z", "one", "zone", number(0), number(0), number(0)),
            let("d", "one", "put", name("c"), name("z")),
        )

    def test_worths_are_of_their_label_alone(self):
        ahead = (let("c", "one", "make"), let("d", "two", "make"))
        self.bad(2, 4, *ahead, let("e", "one", "see", name("d")))
        self.bad(2, 5, *ahead, let("e", "one", "both", name("c"), name("d")))
        self.bad(2, 4, *ahead, let("e", "two", "both", name("c"), name("d")))
        # And of their kind.
        ahead = (let("l", "three", "first"), let("r", "three", "second"))
        self.kinds(
            [("l", ("three", "left")), ("r", ("three", "right")), ("n", 2)],
            *ahead,
            let("n", "three", "near", name("l"), name("r")),
        )
        self.bad(2, 4, *ahead, let("n", "three", "near", name("r"), name("l")))
        self.bad(2, 5, *ahead, let("n", "three", "near", name("l"), name("l")))

    def test_neither_stands_for_the_other(self):
        ahead = (let("c", "one", "make"),)
        self.bad(1, 4, *ahead, let("e", "one", "see", number(0)))
        self.bad(1, 4, *ahead, let("e", "one", "see", put(0)))
        self.bad(1, 5, *ahead, let("e", "one", "put", name("c"), name("c")))

    def test_picks(self):
        ahead = [let("c", "one", "make"), let("d", "one", "make"), let("e", "two", "make")]
        ahead.append(let("n", "one", "see", name("c")))
        told = [("c", ("one", "cell")), ("d", ("one", "cell")), ("e", ("two", "cell")), ("n", 3)]
        self.kinds([*told, ("p", ("one", "cell"))], *ahead, pick("p", name("n"), name("c"), name("d")))
        self.kinds([*told, ("p", ("two", "cell"))], *ahead, pick("p", put(1), name("e"), name("e")))
        self.kinds([*told, ("p", 5)], *ahead, pick("p", number(8), name("n"), put(1)))
        self.kinds([*told, ("p", 5)], *ahead, pick("p", number(8), put(1), name("n")))
        self.kinds([*told, ("p", 4)], *ahead, pick("p", number(0), number(3), number(1)))
        picked = pick("p", name("n"), name("n"), name("n"))
        self.kinds([*told, ("p", 3), ("q", 6)], *ahead, picked, pick("q", name("p"), number(5), name("p")))
        # Unlike ones are told by the third.
        self.bad(4, 3, *ahead, pick("p", name("n"), name("c"), name("e")))
        self.bad(4, 3, *ahead, pick("p", name("n"), name("c"), name("n")))
        self.bad(4, 3, *ahead, pick("p", name("n"), number(0), name("c")))
        two = (let("l", "three", "first"), let("r", "three", "second"))
        self.bad(2, 3, *two, pick("p", number(0), name("l"), name("r")))
        # The first is of a plain kind.
        self.bad(4, 1, *ahead, pick("p", name("c"), name("c"), name("d")))
        self.bad(4, 1, *ahead, pick("p", name("c"), name("none"), None))
        for place in (1, 2, 3):
            for thing in (*ODD_THINGS, "c", (), name("none"), name("p"), number(9), put(3), deep_thing(50000)):
                args = [name("n"), name("n"), name("n")]
                args[place - 1] = thing
                self.bad(4, place, *ahead, pick("p", *args))

    def test_what_is_said(self):
        ahead = (let("c", "one", "make"), let("n", "one", "see", name("c")))
        told = [("c", ("one", "cell")), ("n", 3)]
        self.kinds(told, *ahead, say(name("n")), say(number(8)), say(put(0)), say(name("n")))
        for thing in (*ODD_THINGS, 0, "n", (), name("c"), name("none"), number(9), number(-1), put(3), deep_thing(50)):
            self.bad(2, 0, *ahead, say(thing))
        self.bad(0, 0, say(put(0)), inputs=())
        self.bad(0, 0, say(put(2)), inputs=(2, 2))

    def test_names_told_twice_or_behind(self):
        makes = let("c", "one", "make")
        self.bad(1, 0, makes, makes)
        self.bad(1, 0, makes, let("c", "two", "make"))
        self.bad(1, 0, makes, pick("c", number(0), number(0), number(0)))
        self.bad(1, 0, pick("c", number(0), number(0), number(0)), makes)
        self.bad(0, 4, let("n", "one", "see", name("c")), makes)
        self.bad(0, 4, let("n", "one", "see", name("n")))
        self.bad(0, 0, say(name("n")), makes)
        # Names of rows are none of labels', nor of deeds'.
        told = [("one", ("one", "cell")), ("make", ("one", "cell"))]
        self.kinds(told, let("one", "one", "make"), let("make", "one", "make"))

    def test_lets_that_cant_be(self):
        makes = let("c", "one", "make")
        for thing in NO_NAMES:
            self.bad(1, 0, makes, ("let", thing, None, None, None))
            self.bad(1, 1, makes, ("let", "d", thing, None, None))
            self.bad(1, 2, makes, ("let", "d", "one", thing, None))
        self.bad(1, 1, makes, ("let", "d", "none", "make", ()))
        self.bad(1, 1, makes, ("let", "d", "c", "make", ()))
        self.bad(1, 2, makes, ("let", "d", "one", "first", ()))
        self.bad(1, 2, makes, ("let", "d", "one", "cell", ()))
        for thing in (*ODD_THINGS, 0, "c", (), (name("c"),), (name("c"),) * 3, [name("c"), number(0)], name("c")[:1]):
            self.bad(1, 3, makes, ("let", "d", "one", "put", thing))
        self.bad(1, 3, makes, ("let", "d", "one", "make", (name("c"),)))
        self.bad(1, 3, makes, ("let", "d", "one", "make", []))
        for thing in (*ODD_THINGS, 0, "c", (), number(9), number(-1), put(3), name("d"), deep_thing(50000)):
            self.bad(1, 4, makes, let("d", "one", "put", thing, thing))
            self.bad(1, 5, makes, let("d", "one", "put", name("c"), thing))
            self.bad(1, 6, makes, let("d", "one", "zone", number(1), number(2), thing))

    def test_rows_that_are_none(self):
        makes = let("c", "one", "make")
        says = (("say",), ("say", number(0), number(0)), ["say", number(0)], ("says", 0), (None, 0), ([], 0))
        others = (makes[:4], (*makes, ()), ("pick", "p", 0, 0), ("pick", "p", 0, 0, 0, 0), deep_thing(50000))
        for thing in (*ODD_THINGS, 0, "say", (), *says, *others):
            self.bad(1, None, makes, thing)
            self.bad(0, None, thing, thing)

    def test_parts(self):
        right = (USES, INPUTS, ())
        for thing in (*ODD_THINGS, 0, "abc", (), right[:2], (*right, ()), list(right), deep_thing(50000)[:2]):
            self.bad_program(None, None, thing)
        for thing in (*ODD_THINGS, 0, "abc", (), USES * 2, list(USES)):
            self.bad_program("uses", None, (thing, None, None))
        for thing in (*ODD_THINGS, 0, "abc", (2, 2, 2, 2), [2]):
            self.bad_program("inputs", None, ((None,), thing, None))
        for thing in (*ODD_THINGS, 0, "abc", [], (say(number(0)),) * 31):
            self.bad_program("rows", None, ((None,), (None,), thing))

    def test_uses(self):
        odd = (("a",), ("a", CELL, CELL), ["a", CELL], ("one", CELL), ("a", None), ("a", (CELL[0], ())))
        for thing in (*ODD_THINGS, 0, "ab", (), *odd, *[(word, CELL) for word in NO_NAMES]):
            self.bad_program("uses", 1, (USES[:1] + (thing, None), (None,), (None,)))
        self.bad_program("uses", 0, ((("A", CELL), ("one", CELL)), (), ()))
        self.bad_program("uses", 3, (USES + (("one", PAIR),), (None,), (None,)))

    def test_inputs(self):
        for thing in (*ODD_THINGS, 0, 1, 10, -2, "2", (2,), "cell"):
            self.bad_program("inputs", 0, (USES, (thing, None), (None,)))
            self.bad_program("inputs", 2, (USES, (2, 9, thing), (None,)))

    def test_as_many_as_there_may_be(self):
        four = tuple((label, CELL) for label in ("d", "c", "b", "a"))
        self.kinds([], *[say(number(0))] * 30, uses=four, inputs=(2, 2, 9))
        self.bad("rows", None, *[say(number(0))] * 31)
        self.bad("uses", None, uses=(*four, ("e", CELL)))
        self.bad("inputs", None, inputs=(2, 2, 2, 2))

    def test_told_lists_are_the_askers_own(self):
        program = (USES, INPUTS, (let("c", "one", "make"),))
        told = kinds_in(program)
        told.append(1)
        told[0] = None
        self.same_form(kinds_in(program), [("c", ("one", "cell"))])


def plain_kinds(program):
    """The kinds in a program, or the fields of the BadProgram that is due, found as the document says it."""
    uses, inputs, rows = program
    kinds = {}

    def kind_of(arg):
        if not is_arg(arg):
            return None
        told = {"number": lambda n: n + 1, "name": kinds.get, "input": lambda n: dict(enumerate(inputs)).get(n)}
        return told[arg[0]](arg[1])

    def plain(arg):
        return isinstance(kind_of(arg), int)

    for at, row in enumerate(rows):
        word = row[0] if isinstance(row, tuple) and row else None
        if not isinstance(word, str) or {"let": 5, "pick": 5, "say": 2}.get(word) != len(row):
            return (at, None)
        if word == "say":
            if not plain(row[1]):
                return (at, 0)
            continue
        if not isinstance(row[1], str) or not 1 <= len(row[1]) <= 8 or not row[1].isalpha() or row[1] in kinds:
            return (at, 0)
        if word == "pick":
            if not plain(row[2]):
                return (at, 1)
            if kind_of(row[3]) is None:
                return (at, 2)
            if plain(row[3]) and plain(row[4]):
                kinds[row[1]] = max(kind_of(row[3]), kind_of(row[4]))
            elif kind_of(row[3]) == kind_of(row[4]):
                kinds[row[1]] = kind_of(row[3])
            else:
                return (at, 3)
            continue
        faces = [face for label, face in uses if label == row[2]]
        if not faces:
            return (at, 1)
        deeds = [deed for deed in faces[0][1] if deed[0] == row[3]]
        if not deeds:
            return (at, 2)
        name_told, takes, gives = deeds[0]
        if not isinstance(row[4], tuple) or len(row[4]) != len(takes):
            return (at, 3)
        for place, (kind, arg) in enumerate(zip(takes, row[4])):
            if isinstance(kind, int):
                fits = plain(arg) and kind_of(arg) <= kind
            else:
                fits = kind_of(arg) == (row[2], kind)
            if not fits:
                return (at, 4 + place)
        kinds[row[1]] = gives if isinstance(gives, int) else (row[2], gives)
    return list(kinds.items())


class ChanceTest(FieldsCase):
    def test_as_the_document_says(self):
        rng = random.Random(60)
        right = 0
        for step in range(1500):
            program = chance_program(rng)
            if step % 3:
                program = (*program[:2], spoilt(rng, program[2]))
                if not isinstance(program[2], tuple) or len(program[2]) > 30:
                    continue
            told = plain_kinds(program)
            if isinstance(told, list):
                right += 1
                self.same_form(kinds_in(program), told)
            else:
                self.refuses(BadProgram, {"row": told[0], "place": told[1]}, need_program, program)
        self.assertGreater(right, 500)


if __name__ == "__main__":
    unittest.main()
