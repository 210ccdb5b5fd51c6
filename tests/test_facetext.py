import unittest

from sameface.errors import BadRow
from sameface.facetext import face_text, read_face
from tests.helpers import FACE, FACE_TEXT, ODD_THINGS, FieldsCase, deep_thing
from tests.test_faces import RIGHT_FACES

NINE = ["hidden a"] + [f"{letter} : 2" for letter in "bcdefghij"]

# (text, row, word): a text that can't be read, and where.
BAD_TEXTS = (
    # blanks amiss, and nothing
    ("", 1, 0),
    (" ", 1, 0),
    (" hidden a\nb : 2", 1, 0),
    ("hidden a \nb : 2", 1, 0),
    ("hidden  a\nb : 2", 1, 0),
    ("\nhidden a\nb : 2", 1, 0),
    ("hidden a\n", 2, 0),
    ("hidden a\nb : 2\n", 3, 0),
    ("hidden a\nb : 2\n\nc : 2", 3, 0),
    ("hidden a\n b : 2", 2, 0),
    ("hidden a\nb : 2 ", 2, 0),
    ("hidden a\nb  : 2", 2, 0),
    ("hidden a\nB :  2", 2, 0),
    # the first row
    ("Hidden a\nb : 2", 1, 1),
    ("a b\nb : 2", 1, 1),
    ("hidden\nb : 2", 1, 2),
    ("hidden A\nb : 2", 1, 2),
    ("hidden 2\nb : 2", 1, 2),
    ("hidden abcdefghi\nb : 2", 1, 2),
    ("hidden a a\nb : 2", 1, 3),
    ("hidden b a\nb : 2", 1, 3),
    ("hidden a :\nb : 2", 1, 3),
    ("hidden a b c\nb : 2", 1, 4),
    ("hidden a b : 2", 1, 4),
    # no deed
    ("hidden a", 2, 1),
    ("hidden a b", 2, 1),
    # names of deeds
    ("hidden a\n: 2", 2, 1),
    ("hidden a\nB : 2", 2, 1),
    ("hidden a\n2 : 2", 2, 1),
    ("hidden a\nabcdefghi : 2", 2, 1),
    ("hidden a\nb : 2\nb : 2", 3, 1),
    ("hidden a\nb : 2\na : 2", 3, 1),
    ("hidden a\nb : 2\nc : 2\nbz : 2", 4, 1),
    # what is taken
    ("hidden a\nb", 2, 2),
    ("hidden a\nb 2", 2, 3),
    ("hidden a\nb x : 2", 2, 2),
    ("hidden a\nb 1 : 2", 2, 2),
    ("hidden a\nb 0 : 2", 2, 2),
    ("hidden a\nb 10 : 2", 2, 2),
    ("hidden a\nb 02 : 2", 2, 2),
    ("hidden a\nb -2 : 2", 2, 2),
    ("hidden a\nb 2 3 hidden : 2", 2, 4),
    ("hidden a\nb 2 3 4 5 : 2", 2, 5),
    ("hidden a\nb 2 3 4 : : 2", 2, 6),
    ("hidden a\nb 2 3 4", 2, 5),
    ("hidden a\nb a a a : 2", 2, 4),
    ("hidden a c\nb a c a : 2", 2, 4),
    ("hidden a c\nb a 2 c a : 2", 2, 5),
    # what is given
    ("hidden a\nb :", 2, 3),
    ("hidden a\nb 2 a :", 2, 5),
    ("hidden a\nb : 1", 2, 3),
    ("hidden a\nb : 10", 2, 3),
    ("hidden a\nb : x", 2, 3),
    ("hidden a\nb : :", 2, 3),
    ("hidden a\nb : 2 2", 2, 4),
    ("hidden a\nb : 2 :", 2, 4),
    ("hidden a\nb a : a a", 2, 5),
    # a ninth deed
    ("\n".join(NINE), 10, 0),
    ("\n".join(NINE + ["k : 2"]), 10, 0),
    ("\n".join(NINE[:9] + ["B : 2"]), 10, 0),
    ("\n".join(NINE[:9] + [""]), 10, 0),
    # the first row that can't stand
    ("hidden a\nb : 1\n c", 2, 3),
    ("hidden b a\nB", 1, 3),
    ("\n".join(["hidden a", "b : 1"] + NINE[2:]), 2, 3),
)


class FaceTextTest(FieldsCase):
    def test_written(self):
        self.assertEqual(face_text(FACE), FACE_TEXT)
        self.assertEqual(face_text((("a",), (("b", (2, "a", 9), "a"),))), "hidden a\nb 2 a 9 : a")

    def test_read_back(self):
        for face in RIGHT_FACES:
            self.same_form(read_face(face_text(face)), face)

    def test_eight_deeds_are_read(self):
        self.assertEqual(len(read_face("\n".join(NINE[:9]))[1]), 8)

    def test_words_of_texts_as_names(self):
        self.same_form(
            read_face("hidden hidden\nhidden hidden : hidden"), (("hidden",), (("hidden", ("hidden",), "hidden"),))
        )

    def test_refused(self):
        for text, row, word in BAD_TEXTS:
            with self.subTest(text):
                self.refuses_row(BadRow, row, word, read_face, text)

    def test_no_text(self):
        for thing in (*ODD_THINGS, 1, (), FACE, deep_thing(50000)):
            self.refuses_row(BadRow, 0, 0, read_face, thing)


if __name__ == "__main__":
    unittest.main()
