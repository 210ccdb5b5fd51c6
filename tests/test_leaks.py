import itertools
import random
import unittest

from sameface.alike import classes_of
from sameface.contexts import first_context, is_telling
from sameface.errors import BadFace, BadMaking, BadSteps, OutOfPlace
from sameface.facetext import read_face
from sameface.fewer import fewer_face, fewer_making
from sameface.leaks import is_silent, leaks, leans, needed
from sameface.makings import is_making
from sameface.makingtext import read_making
from sameface.related import is_same
from tests.helpers import (
    FACE,
    MAKING,
    ODD_THINGS,
    FieldsCase,
    Plainly,
    chance_face,
    chance_making,
    deep_thing,
    with_more,
)
from tests.test_related import BITS, BOX, FULL, MARKED, WHOLE

SEE = ("see", 0, ())

# a is made of a number, b of a; "peek" sees b's last bit, "pry" what a is, but beside a large b alone.
SAFE = read_face("hidden a b\nbig : b\nmake 4 : a\nopen a : b\npeek b : 2\npry a b : 4")
SAFE_MAKING = read_making(
    SAFE,
    "shape a 4\nshape b 5\nbig give 4\nmake give in 0 0\nopen give in 0 0\npeek give in 0 0\n"
    "pry give times in 0 0 same in 1 0 4",
)

# Either of "add" and "up" comes to all that there is.
COUNTS = read_face("hidden a\nadd a 3 : a\nnew : a\nsee a : 4\nup a : a")
COUNTS_MAKING = read_making(
    COUNTS, "shape a 4\nadd give plus in 0 0 in 1 0\nnew give 0\nsee give in 0 0\nup give plus 1 in 0 0"
)


class LeaksTest(FieldsCase):
    def leak(self, face, making, names, told):
        self.same_form(leaks(face, making, names), told)
        for kind, row in zip(face[0], told):
            for one, other, steps in row:
                self.assertIs(is_telling(face, making, kind, one, other, steps), True)
                self.assertIs(leans(face, making, names, kind, steps), True)

    def test_all_that_a_deed_shows(self):
        pairs = [((one,), (other,), (SEE,)) for one, other in itertools.combinations(range(4), 2)]
        self.leak(BOX, WHOLE, ("see",), (tuple(pairs),))

    def test_none(self):
        for names in ((), ("add",), ("new",), ("add", "new"), ("add", "see"), ("new", "see")):
            self.leak(BOX, WHOLE, names, ((),))

    def test_those_that_are_alike_in_the_whole_are_none(self):
        told = leaks(BOX, MARKED, ("see",))[0]
        worths = [(number, mark) for number in range(8) for mark in range(2)]
        pairs = [(one, other) for one, other in itertools.combinations(worths, 2) if one[0] % 4 != other[0] % 4]
        self.assertEqual([leak[:2] for leak in told], pairs)
        self.assertEqual({leak[2] for leak in told}, {(SEE,)})

    def test_refusals_leak_too(self):
        # Without "see" 3 is told from others by a refusal at once, 1 and 2 by one, 0 by two steps: none leaks.
        self.leak(BOX, FULL, ("see",), ((),))
        face = read_face("hidden a\nbar a : a\nnew 2 : a\nsee a : 2")
        making = read_making(face, "shape a 2\nbar when in 0 0 refuse give 0\nnew give in 0 0\nsee give 0")
        self.leak(face, making, ("bar",), ((((0,), (1,), (("bar", 0, ()),)),),))

    def test_both_hidden_kinds(self):
        # "peek" alone parts those of b, one of an odd from one of an even number, but for 4, which "pry" parts.
        peek = (("peek", 0, ()),)
        pairs = [(one, other) for one, other in itertools.combinations(range(4), 2) if (one + other) % 2]
        self.leak(SAFE, SAFE_MAKING, ("peek",), ((), tuple(((one,), (other,), peek) for one, other in pairs)))
        # Of b (4,) is number 0, of a (1,) number 1: the first one beside which "pry" shows something.
        beside_four, beside_one = (("pry", 0, (0,)),), (("pry", 1, (1,)),)
        told = tuple(((one,), (one + 2,), beside_four) for one in (0, 1))
        self.leak(SAFE, SAFE_MAKING, ("pry",), (told, tuple(((one,), (4,), beside_one) for one in (0, 2))))

    def test_come_to_only_with_the_names_are_none(self):
        # Without "big" there is no b of 4: it isn't told from others, and "pry" shows nothing.
        told = leaks(SAFE, SAFE_MAKING, ("big",))
        odd = tuple(((one,), (one + 2,), (("pry", 0, (0,)),)) for one in (0, 1))
        self.same_form(told, (odd, ()))

    def test_rising_by_worths_not_by_numbers(self):
        face = read_face("hidden a\nnew 3 : a\nsee a : 3")
        making = read_making(face, "shape a 3\nnew give less 2 in 0 0\nsee give in 0 0")
        pairs = tuple(((one,), (other,), (SEE,)) for one, other in ((0, 1), (0, 2), (1, 2)))
        self.leak(face, making, ("see",), (pairs,))

    def test_as_the_document_says(self):
        rng = random.Random(51)
        many = 0
        for step in range(150):
            face = chance_face(rng)
            making = chance_making(rng, face)
            whole = Plainly(face, making).fewest()
            names = [deed[0] for deed in face[1]]
            names = tuple(sorted(rng.sample(names, rng.randrange(len(names)))))
            without = Plainly(fewer_face(face, names), fewer_making(face, making, names))
            fewest = without.fewest()
            told = []
            for kind in face[0]:
                row = []
                for one, other in itertools.combinations(sorted(without.worths(kind)), 2):
                    if (kind, one, other) not in fewest and (kind, one, other) in whole:
                        row.append((one, other, first_context(face, making, kind, one, other)))
                many += len(row)
                told.append(tuple(row))
            self.leak(face, making, names, tuple(told))
            silent = not any(told)
            for kind in face[0]:
                for members in classes_of(face, making, kind):
                    silent = silent and any(worth in without.worths(kind) for worth in members)
            self.assertIs(is_silent(face, making, names), silent)
        self.assertGreater(many, 5)


class LeansTest(FieldsCase):
    def leaning(self, told, names, kind, *steps):
        self.assertIs(leans(SAFE, SAFE_MAKING, names, kind, steps), told, (names, steps))

    def test_a_deed_of_the_names(self):
        peek = ("peek", 0, ())
        self.leaning(True, ("peek",), "b", peek)
        self.leaning(True, ("peek",), "a", ("open", 0, ()), peek)
        self.leaning(True, ("open",), "a", ("open", 0, ()), peek)
        self.leaning(True, ("open", "peek"), "b", peek)
        self.leaning(False, ("open",), "b", peek)
        self.leaning(False, (), "a", ("open", 0, ()), peek)
        self.leaning(False, ("big", "make"), "b", peek)

    def test_a_worth_that_isnt_come_to_without_them(self):
        # b's numbers: (4,) of "big", then (0,), (1,), (2,), (3,).
        self.leaning(True, ("big",), "a", ("pry", 0, (0,)))
        self.leaning(False, ("big",), "a", ("pry", 0, (1,)))
        self.leaning(True, ("open",), "a", ("pry", 0, (1,)))
        self.leaning(False, ("open",), "a", ("pry", 0, (0,)))
        self.leaning(True, ("make",), "b", ("pry", 1, (2,)))
        self.leaning(True, ("make",), "a", ("pry", 0, (4,)))
        self.leaning(False, ("peek",), "b", ("pry", 1, (2,)))
        self.leaning(False, (), "b", ("pry", 1, (2,)))

    def test_x_itself_may_be_any(self):
        # A worth of b that x comes to be isn't handed in as one of OTHERS.
        self.leaning(False, ("big",), "b", ("peek", 0, ()))

    def test_numbers_are_none_of_it(self):
        face = read_face("hidden a\nadd 3 a : a\nnew : a")
        making = read_making(face, "shape a 3\nadd give plus in 0 0 in 1 0\nnew give 0")
        self.assertIs(leans(face, making, ("new",), "a", (("add", 1, (2,)),)), False)
        self.assertIs(leans(face, making, ("add",), "a", (("add", 1, (2,)),)), True)

    def test_bad_steps_behind_no_hidden_kind(self):
        peek = ("peek", 0, ())
        for steps, number in ((None, None), ((), None), (((peek, None)), 1), ((peek, peek), 1), ((peek,) * 201, None)):
            self.refuses(BadSteps, {"number": number}, leans, SAFE, SAFE_MAKING, ("peek",), "b", steps)
            for kind in (*ODD_THINGS, "", "c", "peek", 4, deep_thing(50000)):
                self.refuses(OutOfPlace, {}, leans, SAFE, SAFE_MAKING, ("peek",), kind, steps)
        # Five of b are come to in the whole: steps are looked at there.
        self.refuses(BadSteps, {"number": 0}, leans, SAFE, SAFE_MAKING, ("peek",), "a", (("pry", 0, (5,)),))
        self.refuses(BadSteps, {"number": 0}, leans, SAFE, SAFE_MAKING, ("peek",), "a", (peek,))
        self.leaning(False, ("peek",), "a", ("pry", 0, (4,)))


class SilentTest(FieldsCase):
    def silent(self, told, face, making, *names):
        self.assertIs(is_silent(face, making, names), told, names)

    def test_something_leaks(self):
        self.silent(False, BOX, WHOLE, "see")

    def test_a_class_without_a_worth(self):
        self.silent(False, BOX, WHOLE, "add")
        self.silent(False, BOX, WHOLE, "new")
        # b of 4 is a class of its own, nothing of it leaks.
        face = read_face("hidden a b\nbig : b\nnew : a\nsee b : 9\nsmall : b")
        making = read_making(face, "shape a 2\nshape b 9\nbig give 8\nnew give 0\nsee give in 0 0\nsmall give 1")
        self.assertEqual(leaks(face, making, ("big",)), ((), ()))
        self.silent(False, face, making, "big")
        making = read_making(face, "shape a 2\nshape b 9\nbig give 8\nnew give 0\nsee give rest in 0 0 7\nsmall give 1")
        self.silent(True, face, making, "big")
        self.silent(True, face, making, "small")
        self.silent(False, face, making, "big", "small")

    def test_silent(self):
        self.silent(True, BOX, WHOLE)
        self.silent(True, COUNTS, COUNTS_MAKING, "up")
        self.silent(True, COUNTS, COUNTS_MAKING, "add")
        self.silent(False, COUNTS, COUNTS_MAKING, "add", "up")
        self.silent(False, COUNTS, COUNTS_MAKING, "see")

    def test_alike_ones_are_enough(self):
        # Without "add" only (4, 0) of MARKED is come to, without "new" nothing.
        self.silent(False, BOX, MARKED, "add")
        blind = read_making(BOX, "shape box 4\nadd give plus in 0 0 in 1 0\nnew give 0\nsee give 0")
        self.silent(True, BOX, blind, "add")
        self.silent(True, BOX, blind, "add", "see")
        self.silent(False, BOX, blind, "new", "see")


class NeededTest(FieldsCase):
    def needs(self, face, making, *names):
        self.same_form(needed(face, making), names)

    def test_all(self):
        self.needs(BOX, WHOLE, "add", "new", "see")

    def test_of_same_makings_the_same(self):
        for making in (BITS, MARKED, WHOLE):
            self.needs(BOX, making, "add", "new", "see")
        rng = random.Random(53)
        for step in range(60):
            face = chance_face(rng)
            one = chance_making(rng, face)
            other = with_more(rng, face, one, 0)
            if is_making(face, other) and is_same(face, one, other):
                self.assertEqual(needed(face, one), needed(face, other))

    def test_from_the_last_to_the_first(self):
        self.needs(COUNTS, COUNTS_MAKING, "add", "new", "see")

    def test_the_last_deed_left(self):
        # Nothing is come to: all are silent.
        face = read_face("hidden a\nback a : a\nnew : a\nsee a : 2")
        self.needs(face, read_making(face, "shape a 2\nback give 0\nnew refuse\nsee give 0"), "back")
        # One class: what comes to it is needed; the first deed alone doesn't.
        self.needs(face, read_making(face, "shape a 2\nback give 0\nnew give 1\nsee give 0"), "new")
        face = read_face("hidden a\nnew : a")
        self.needs(face, read_making(face, "shape a 2\nnew refuse"), "new")

    def test_as_the_document_says(self):
        rng = random.Random(54)
        for step in range(100):
            face = chance_face(rng)
            making = chance_making(rng, face)
            out = ()
            names = [deed[0] for deed in face[1]]
            for name in reversed(names):
                if len(out) + 1 < len(names) and is_silent(face, making, (name, *out)):
                    out = (name, *out)
            self.needs(face, making, *[name for name in names if name not in out])


class RefusedTest(FieldsCase):
    def test_no_face_then_no_making(self):
        nothing = {"part": None, "number": None}
        for thing in (*ODD_THINGS, 1, "ab", (), deep_thing(50000)):
            self.refuses(BadFace, nothing, needed, thing, thing)
            self.refuses(BadMaking, nothing, needed, FACE, thing)
            for call, more in ((leaks, ()), (is_silent, ()), (leans, (thing, thing))):
                self.refuses(BadFace, nothing, call, thing, thing, thing, *more)
                self.refuses(BadMaking, nothing, call, FACE, thing, thing, *more)
                self.refuses(BadFace, nothing, call, thing, MAKING, ("add",), *more)
                self.refuses(BadMaking, nothing, call, FACE, thing, ("add",), *more)

    def test_no_names_go_ahead_of_no_kind_and_no_steps(self):
        self.refuses(OutOfPlace, {}, leans, FACE, MAKING, ("none",), "bag", None)
        self.refuses(OutOfPlace, {}, leans, FACE, MAKING, None, None, None)


if __name__ == "__main__":
    unittest.main()
