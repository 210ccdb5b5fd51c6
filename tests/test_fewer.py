import itertools
import unittest

from sameface.errors import BadFace, BadMaking, OutOfPlace
from sameface.faces import is_face
from sameface.fewer import fewer_face, fewer_making
from sameface.leaks import is_silent, leaks, leans
from sameface.makings import is_making
from tests.helpers import FACE, MAKING, ODD_THINGS, FieldsCase, deep_thing

NAMES = ("add", "both", "key", "new", "open")


class FewerTest(FieldsCase):
    def test_all_that_can_be_left_out(self):
        for many in range(5):
            for names in itertools.combinations(NAMES, many):
                face = fewer_face(FACE, names)
                making = fewer_making(FACE, MAKING, names)
                self.assertIs(is_face(face), True)
                self.assertIs(is_making(face, making), True)
                kept = [number for number, name in enumerate(NAMES) if name not in names]
                self.same_form(face, (FACE[0], tuple(FACE[1][number] for number in kept)))
                self.same_form(making, (MAKING[0], tuple(MAKING[1][number] for number in kept)))

    def test_none(self):
        self.same_form(fewer_face(FACE, ()), FACE)
        self.same_form(fewer_making(FACE, MAKING, ()), MAKING)

    def test_no_names(self):
        others = (NAMES, ("add", "add"), ("both", "add"), ("add", "key", "both"), ("none",), ("add", "none"))
        others = (*others, ("", "add"), (*NAMES, "zip"), ("bag",), ("add", 1), (None,), (True,), (["add"],))
        others = (*others, (("add",),), ("Add",))
        others = (*others, ["add"], [], {"add"}, "add", "", 1, 0, ("add", deep_thing(50000)), deep_thing(50000))
        for names in (*ODD_THINGS, *others):
            self.refuses(OutOfPlace, {}, fewer_face, FACE, names)
            self.refuses(OutOfPlace, {}, fewer_making, FACE, MAKING, names)
            self.refuses(OutOfPlace, {}, leaks, FACE, MAKING, names)
            self.refuses(OutOfPlace, {}, is_silent, FACE, MAKING, names)
            for kind, steps in (("bag", (("add", 0, (0,)),)), (None, None)):
                self.refuses(OutOfPlace, {}, leans, FACE, MAKING, names, kind, steps)

    def test_the_only_deed(self):
        face = (("a",), (("new", (), "a"),))
        self.refuses(OutOfPlace, {}, fewer_face, face, ("new",))
        self.same_form(fewer_face(face, ()), face)

    def test_no_face_then_no_making(self):
        nothing = {"part": None, "number": None}
        for thing in (*ODD_THINGS, 1, "ab", (), deep_thing(50000)):
            self.refuses(BadFace, nothing, fewer_face, thing, thing)
            self.refuses(BadFace, nothing, fewer_making, thing, thing, thing)
            self.refuses(BadMaking, nothing, fewer_making, FACE, thing, thing)
            self.refuses(BadMaking, nothing, fewer_making, FACE, thing, ("add",))


if __name__ == "__main__":
    unittest.main()
