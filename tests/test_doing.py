import unittest

from sameface.doing import done
from sameface.errors import BadFace, BadMaking, OutOfPlace
from tests.helpers import FACE, MAKING, ODD_THINGS, FieldsCase, deep_thing


class DoneTest(FieldsCase):
    def gives(self, name, handed, told):
        self.same_form(done(FACE, MAKING, name, handed), told)

    def test_nothing_is_handed(self):
        self.gives("new", (), (0, 0))

    def test_fields_are_brought_to_the_rest(self):
        # 3 by 2.
        self.gives("key", (), (1,))
        # 3 + 1 by 4; 0 - 1 by 3.
        self.gives("add", ((3, 0), 1), (0, 2))
        self.gives("add", ((1, 2), 0), (2, 2))
        # 5 * (1 - 2) by 3; 5 * (2 - 0) by 3.
        self.gives("both", ((1, 1), (2, 2), 0), (2, 1))
        self.gives("both", ((1, 2), (2, 0), 1), (1, 1))

    def test_plain_kinds_are_brought_to_the_rest(self):
        # 0 - 4, 1 - 4, 2 - 4, 0 - 4 by 5.
        for count, told in enumerate((1, 2, 3, 1)):
            self.gives("open", ((count, 0), (1,)), told)
        self.gives("open", ((0, 1), (0,)), 1)
        self.gives("open", ((1, 1), (0,)), 0)

    def test_each_bound_is_its_own(self):
        face = (("box",), (("new", (), "box"), ("see", (), 7)))
        for number in (0, 6, 7, 20, 99):
            body = ("give", (("number", number), ("less", ("number", 0), ("number", number))))
            making = (((5, 3),), (body, ("give", (("number", number),))))
            self.assertEqual(done(face, making, "new", ()), (number % 5, -number % 3))
            self.assertEqual(done(face, making, "see", ()), number % 7)

    def test_refusing(self):
        self.assertIsNone(done(FACE, MAKING, "add", ((0, 0), 2)))

    def test_no_face_then_no_making(self):
        self.refuses(BadFace, {"part": None, "number": None}, done, None, None, None, None)
        self.refuses(BadMaking, {"part": None, "number": None}, done, FACE, None, None, None)
        self.refuses(BadMaking, {"part": "bodies", "number": None}, done, FACE, (MAKING[0], ()), "none", None)

    def test_no_deeds_name(self):
        for name in (*ODD_THINGS, "", "bag", "adds", 0, ("add",), ["add"]):
            for handed in ((), None):
                self.refuses(OutOfPlace, {}, done, FACE, MAKING, name, handed)

    def test_what_cant_be_handed(self):
        bag = (0, 0)
        others = ((), (bag,), (bag, 1, 1), [bag, 1], (bag, 3), (bag, -1), (bag, True), (bag, False), (bag, "1"))
        others = (*others, (bag, (1,)), (bag, bag), ((0,), 1), ((0, 0, 0), 1), ((4, 0), 1), ((0, 3), 1), ((-1, 0), 1))
        others = (*others, ((True, 0), 1), ([0, 0], 1), (0, 1), (None, 1), (1, bag), (deep_thing(50000), 1))
        for handed in (*ODD_THINGS, 1, "ab", *others, deep_thing(50000)):
            self.refuses(OutOfPlace, {}, done, FACE, MAKING, "add", handed)
        for handed in (None, [], ((),), 0, (0,)):
            self.refuses(OutOfPlace, {}, done, FACE, MAKING, "new", handed)
        self.refuses(OutOfPlace, {}, done, FACE, MAKING, "open", ((0,), (0, 0)))
        self.refuses(OutOfPlace, {}, done, FACE, MAKING, "open", ((0, 0), (2,)))

    def test_what_cant_be_handed_to_a_refusing_deed(self):
        self.refuses(OutOfPlace, {}, done, FACE, MAKING, "add", ((9, 9), 2))


if __name__ == "__main__":
    unittest.main()
