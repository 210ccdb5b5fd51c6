import unittest

from sameface.doing import done
from sameface.errors import BadFace, BadMaking, OutOfPlace
from sameface.makings import body_of, is_making, is_worth, need_making, shape_of, worths_of
from sameface.makingtext import making_text
from tests.helpers import FACE, MAKING, ODD_THINGS, FieldsCase, deep_thing
from tests.test_exprs import full, with_rest

SMALL = (("box",), (("new", (), "box"), ("see", ("box", 3), 2)))
REFUSE = ("refuse",)
ONE = ("number", 1)

GOOD_SHAPES = ((2,), (9,), (2, 2), (4, 4), (8, 2), (2, 8), (5, 3), (2, 2, 2), (2, 2, 4), (4, 2, 2), (3, 5))
BAD_SHAPES = (
    *ODD_THINGS,
    2,
    "2",
    (),
    (1,),
    (0,),
    (-2,),
    (10,),
    (True,),
    ("2",),
    (None,),
    ((2,),),
    [2],
    (2, 1),
    (2, 10),
    (2, True),
    (3, 6),
    (9, 2),
    (4, 5),
    (2, 2, 5),
    (3, 3, 2),
    (2, 2, 2, 2),
    deep_thing(50000),
)


def small(shape, see=REFUSE):
    new = ("give", (ONE,) * len(shape)) if isinstance(shape, tuple) else REFUSE
    return ((shape,), (new, see))


class MakingTest(FieldsCase):
    def no_making(self, face, thing, part, number):
        self.assertIs(is_making(face, thing), False)
        fields = {"part": part, "number": number}
        self.refuses(BadMaking, fields, need_making, face, thing)
        self.refuses(BadMaking, fields, making_text, face, thing)
        for asked in ("box", "new", "none", None, []):
            self.refuses(BadMaking, fields, shape_of, face, thing, asked)
            self.refuses(BadMaking, fields, worths_of, face, thing, asked)
            self.refuses(BadMaking, fields, body_of, face, thing, asked)
            self.refuses(BadMaking, fields, is_worth, face, thing, asked, (0,))
            self.refuses(BadMaking, fields, done, face, thing, asked, ())

    def test_makings(self):
        self.assertIs(is_making(FACE, MAKING), True)
        self.assertIsNone(need_making(FACE, MAKING))

    def test_shapes(self):
        for shape in GOOD_SHAPES:
            self.assertIs(is_making(SMALL, small(shape)), True, shape)

    def test_no_shapes(self):
        for shape in BAD_SHAPES:
            self.no_making(SMALL, small(shape), "shapes", 0)
            self.no_making(SMALL, ((shape,), (None, None)), "shapes", 0)
            self.no_making(FACE, (((2,), shape), MAKING[1]), "shapes", 1)
            self.no_making(FACE, ((shape, None), MAKING[1]), "shapes", 0)

    def test_no_pair(self):
        for thing in (*ODD_THINGS, 1, "ab", (), (MAKING[0],), (*MAKING, ()), list(MAKING), deep_thing(50000)):
            self.no_making(FACE, thing, None, None)

    def test_shapes_no_tuple_of_as_many(self):
        for shapes in (*ODD_THINGS, 1, (), ((2,),), ((2,), (2,), (2,)), [(2,), (2,)]):
            self.no_making(FACE, (shapes, MAKING[1]), "shapes", None)
            self.no_making(FACE, (shapes, ()), "shapes", None)
        self.no_making(SMALL, (((2,), (2,)), (REFUSE, REFUSE)), "shapes", None)

    def test_bodies_no_tuple_of_as_many(self):
        for bodies in (*ODD_THINGS, 1, (), MAKING[1][:4], (*MAKING[1], REFUSE), list(MAKING[1])):
            self.no_making(FACE, (MAKING[0], bodies), "bodies", None)
            self.no_making(FACE, ((None, None), bodies), "bodies", None)

    def test_bodies_that_are_none_for_their_deed(self):
        two = ("give", (ONE, ONE))
        one = ("give", (ONE,))
        sees = (two, ("give", (("in", 0, 2),)), ("give", (("in", 1, 1),)), ("give", (("in", 2, 0),)), None, [], ONE)
        for see in sees:
            self.no_making(SMALL, small((2, 2), see), "bodies", 1)
        for see in (one, ("give", (("in", 0, 1),)), ("give", (("in", 1, 0),)), REFUSE):
            self.assertIs(is_making(SMALL, small((2, 2), see)), True)
        for new in (one, ("give", (ONE, ("in", 0, 0))), ("give", (ONE, ONE, ONE))):
            self.no_making(SMALL, (((2, 2),), (new, one)), "bodies", 0)
            self.no_making(SMALL, (((2, 2),), (new, None)), "bodies", 0)
        self.no_making(SMALL, (((2,),), (("give", (ONE, ONE)), one)), "bodies", 0)

    def test_too_great_and_too_deep_bodies(self):
        deep = ("give", (deep_thing(6),))
        self.assertIs(is_making(SMALL, small((2,), deep)), True)
        self.no_making(SMALL, small((2,), ("give", (deep_thing(7),))), "bodies", 1)
        self.no_making(SMALL, small((2,), ("give", (deep_thing(50000),))), "bodies", 1)

    def test_sixty_parts(self):
        for see, told in ((full(58), True), (with_rest(with_rest(full(58))), True), (full(61), False)):
            self.assertIs(is_making(SMALL, small((2,), see)), told)

    def test_no_face_goes_ahead(self):
        for face in (None, (), (FACE[0], ())):
            for making in (MAKING, None):
                for call in (is_making, need_making, making_text):
                    self.refuses(BadFace, {}, call, face, making)
                for call in (shape_of, worths_of, body_of):
                    self.refuses(BadFace, {}, call, face, making, "bag")
                self.refuses(BadFace, {}, is_worth, face, making, "bag", (0, 0))
        self.refuses(BadFace, {"part": "deeds", "number": None}, is_making, (FACE[0], ()), None)


class AskedTest(FieldsCase):
    def test_shape_and_body(self):
        self.assertEqual(shape_of(FACE, MAKING, "bag"), (4, 3))
        self.assertEqual(shape_of(FACE, MAKING, "key"), (2,))
        for number, deed in enumerate(FACE[1]):
            self.same_form(body_of(FACE, MAKING, deed[0]), MAKING[1][number])

    def test_a_deed_called_as_a_kind(self):
        self.assertEqual(body_of(FACE, MAKING, "key"), ("give", (("number", 3),)))

    def test_worths(self):
        bags = [(0, 0), (0, 1), (0, 2), (1, 0), (1, 1), (1, 2), (2, 0), (2, 1), (2, 2), (3, 0), (3, 1), (3, 2)]
        self.same_form(worths_of(FACE, MAKING, "bag"), bags)
        self.same_form(worths_of(FACE, MAKING, "key"), [(0,), (1,)])

    def test_worths_all_and_rising(self):
        for shape in GOOD_SHAPES:
            making = small(shape)
            worths = worths_of(SMALL, making, "box")
            many = 1
            for bound in shape:
                many *= bound
            self.assertEqual((len(worths), len(set(worths))), (many, many))
            self.assertEqual(worths, sorted(worths))
            for worth in worths:
                self.assertIs(is_worth(SMALL, making, "box", worth), True)

    def test_no_worths(self):
        others = ((), (0,), (0, 0, 0), (4, 0), (0, 3), (-1, 0), (0, -1), (True, 0), (0, False), [0, 0], ("0", 0))
        for thing in (*ODD_THINGS, *others, 0, "00", (None, 0), ((0,), 0), deep_thing(50000)):
            self.assertIs(is_worth(FACE, MAKING, "bag", thing), False)

    def test_told_lists_are_the_askers_own(self):
        first = worths_of(FACE, MAKING, "bag")
        told = worths_of(FACE, MAKING, "bag")
        told.pop()
        told[0] = (9,)
        self.assertEqual(worths_of(FACE, MAKING, "bag"), first)

    def test_no_hidden_kind(self):
        for kind in (*ODD_THINGS, "", "add", "new", "bags", 0, 3, 5, ("bag",), ["bag"], deep_thing(50000)):
            for call in (shape_of, worths_of):
                self.refuses(OutOfPlace, {}, call, FACE, MAKING, kind)
            self.refuses(OutOfPlace, {}, is_worth, FACE, MAKING, kind, (0, 0))
            self.refuses(OutOfPlace, {}, is_worth, FACE, MAKING, kind, None)

    def test_no_deeds_name(self):
        for name in (*ODD_THINGS, "", "bag", "adds", 0, 1, ("add",), ["add"], deep_thing(50000)):
            self.refuses(OutOfPlace, {}, body_of, FACE, MAKING, name)


if __name__ == "__main__":
    unittest.main()
