import unittest

from sameface.errors import BadFace, OutOfPlace
from sameface.faces import gives_of, hidden_of, is_face, names_of, need_face, takes_of
from sameface.facetext import face_text
from tests.helpers import FACE, ODD_THINGS, FieldsCase, deep_thing

LETTERS = "abcdefghijk"


def with_deeds(*deeds):
    return (("bag", "key"), deeds)


def many_deeds(many):
    return tuple((letter, (), 2) for letter in LETTERS[:many])


RIGHT_FACES = (
    FACE,
    (("a",), (("b", (), 2),)),
    (("a",), (("a", (), "a"),)),
    (("abcdefgh", "b"), (("abcdefgh", (), 9),)),
    (("hidden",), (("hidden", ("hidden",), "hidden"),)),
    (("a",), many_deeds(8)),
    with_deeds(("x", ("bag", "bag"), 2)),
    with_deeds(("x", ("bag", "key", 2), "key")),
    with_deeds(("x", (2, 9, 5), 3)),
    with_deeds(("x", ("bag", 2, "key"), 3)),
)

GOOD = ("a", (), 2)

# Things that can't be deeds behind GOOD.
BAD_DEEDS = (
    ("a", (), 2),
    ("B", (), 2),
    ("bA", (), 2),
    ("b1", (), 2),
    ("b a", (), 2),
    ("b\n", (), 2),
    ("b\u00e4", (), 2),
    ("b_", (), 2),
    ("", (), 2),
    ("abcdefghi", (), 2),
    (1, (), 2),
    (None, (), 2),
    (("b",), (), 2),
    (["b"], (), 2),
    ("b", (), 1),
    ("b", (), 0),
    ("b", (), 10),
    ("b", (), True),
    ("b", (), None),
    ("b", (), "box"),
    ("b", (), "2"),
    ("b", (), ["bag"]),
    ("b", (), ("bag",)),
    ("b", (), {}),
    ("b", [], 2),
    ("b", ["bag"], 2),
    ("b", "bag", 2),
    ("b", None, 2),
    ("b", (2, 2, 2, 2), 2),
    ("b", ("bag", "bag", "bag"), 2),
    ("b", ("bag", "key", "bag"), 2),
    ("b", (1,), 2),
    ("b", (10,), 2),
    ("b", (True,), 2),
    ("b", ("box",), 2),
    ("b", (2, None), 2),
    ("b", (["bag"],), 2),
    ("b", ()),
    ("b", (), 2, 2),
    (),
    ["b", (), 2],
    "b",
    None,
    deep_thing(50000),
)


class FaceTest(FieldsCase):
    def no_face(self, thing, part, number):
        self.assertIs(is_face(thing), False)
        for call in (need_face, hidden_of, names_of, face_text):
            self.refuses(BadFace, {"part": part, "number": number}, call, thing)
        for call in (takes_of, gives_of):
            for name in ("add", "none", None, []):
                self.refuses(BadFace, {"part": part, "number": number}, call, thing, name)

    def test_faces(self):
        for face in RIGHT_FACES:
            self.assertIs(is_face(face), True, face)
            self.assertIsNone(need_face(face))

    def test_no_pair(self):
        for thing in (*ODD_THINGS, 1, "ab", (), (("a",),), (("a",), (GOOD,), ()), list(FACE), deep_thing(50000)):
            self.no_face(thing, None, None)

    def test_hidden_no_tuple_of_so_many(self):
        for hidden in (*ODD_THINGS, 1, "a", (), ("a", "b", "c"), ["a"]):
            self.no_face((hidden, (GOOD,)), "hidden", None)
            self.no_face((hidden, ()), "hidden", None)

    def test_deeds_no_tuple_of_so_many(self):
        for deeds in (*ODD_THINGS, 1, "a", (), many_deeds(9), [GOOD]):
            self.no_face((("a",), deeds), "deeds", None)
            self.no_face((("B", "B"), deeds), "deeds", None)

    def test_hidden_that_cant_be(self):
        for name in (*ODD_THINGS, 1, "", "abcdefghi", "A", "a1", ("a",)):
            self.no_face(((name,), (GOOD,)), "hidden", 0)
            self.no_face(((name, "b"), (None,)), "hidden", 0)
            self.no_face((("a", name), (None,)), "hidden", 1)

    def test_hidden_that_doesnt_rise(self):
        self.no_face((("a", "a"), (GOOD,)), "hidden", 1)
        self.no_face((("b", "a"), (None,)), "hidden", 1)
        self.no_face((("ab", "a"), (GOOD,)), "hidden", 1)

    def test_deeds_that_cant_be(self):
        for deed in BAD_DEEDS:
            self.no_face(with_deeds(GOOD, deed), "deeds", 1)
            self.no_face(with_deeds(GOOD, deed, None), "deeds", 1)

    def test_first_deed_that_cant_be(self):
        self.no_face(with_deeds(None, None), "deeds", 0)
        self.no_face(with_deeds(("b", (), 2), ("a", (), 2), ("c", (), 2)), "deeds", 1)
        self.no_face((("a",), (*many_deeds(7), ("a", (), 2))), "deeds", 7)

    def test_deed_behind_one_that_is_odd_but_for_its_name(self):
        self.no_face(with_deeds(("c", (1,), 2), ("b", (), 2)), "deeds", 0)


class AskedTest(FieldsCase):
    def test_told(self):
        self.assertEqual(hidden_of(FACE), ["bag", "key"])
        self.assertEqual(names_of(FACE), ["add", "both", "key", "new", "open"])
        self.assertEqual(takes_of(FACE, "both"), ("bag", "bag", 2))
        self.assertEqual(takes_of(FACE, "new"), ())
        self.assertEqual(gives_of(FACE, "both"), "bag")
        self.assertEqual(gives_of(FACE, "open"), 5)
        self.assertIs(type(takes_of(FACE, "add")), tuple)

    def test_told_lists_are_the_askers_own(self):
        for call in (hidden_of, names_of):
            first = call(FACE)
            told = call(FACE)
            told.append("x")
            told[0] = "y"
            self.assertEqual(call(FACE), first)

    def test_no_deeds_name(self):
        for name in (*ODD_THINGS, "", "bag", "adds", "ADD", 0, 1, ("add",), ["add"], deep_thing(50000)):
            for call in (takes_of, gives_of):
                self.refuses(OutOfPlace, {}, call, FACE, name)


if __name__ == "__main__":
    unittest.main()
