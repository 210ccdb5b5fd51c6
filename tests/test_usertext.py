import unittest

from sameface.errors import BadFace, BadRow
from sameface.usertext import read_user, user_text
from tests.helpers import FACE, ODD_THINGS, FieldsCase, deep_thing
from tests.test_users import USER

USER_TEXT = "new\nadd 0 2\nkey\nboth 0 1 1\nopen 3 2"

# (text, row, word): a text that can't be read, and where.
BAD_TEXTS = (
    # blanks amiss, and nothing
    ("", 1, 0),
    (" ", 1, 0),
    (" new", 1, 0),
    ("new ", 1, 0),
    ("none  x", 1, 0),
    ("new\n", 2, 0),
    ("\nnew", 1, 0),
    ("new\n\nnew", 2, 0),
    ("new\nadd  0 0", 2, 0),
    ("new\nadd 0 0 ", 2, 0),
    # no deed's NAME
    ("none", 1, 1),
    ("bag", 1, 1),
    ("New", 1, 1),
    ("0", 1, 1),
    ("new\nadds 0 0", 2, 1),
    ("new,", 1, 1),
    # words that are no numbers
    ("new\nadd x 0", 2, 2),
    ("new\nadd 00 0", 2, 2),
    ("new\nadd +0 0", 2, 2),
    ("new\nadd -0 0", 2, 2),
    ("new\nadd 0000 0", 2, 2),
    ("new\nadd 1000 0", 2, 2),
    ("new\nadd new 0", 2, 2),
    ("new\nadd 0 01", 2, 3),
    ("new\nadd 0 1,", 2, 3),
    ("new\nadd 0 -1", 2, 3),
    ("new\nadd " + "1" * 6000 + " 0", 2, 2),
    ("new\nadd 0 " + "0" * 6000, 2, 3),
    # things that can't be handed there
    ("add 0 0", 1, 2),
    ("new\nadd 1 0", 2, 2),
    ("new\nadd 2 0", 2, 2),
    ("new\nadd 999 0", 2, 2),
    ("new\nadd 0 3", 2, 3),
    ("key\nadd 0 0", 2, 2),
    ("new\nkey\nopen 0 0", 3, 3),
    ("new\nkey\nopen 1 0", 3, 2),
    ("new\nboth 0 0 2", 2, 4),
    ("new\nkey\nopen 0 1\nadd 2 0", 4, 2),
    # words that lack, words too many
    ("new\nadd", 2, 2),
    ("new\nadd 0", 2, 3),
    ("new\nboth 0 0", 2, 4),
    ("new 0", 1, 2),
    ("new x y", 1, 2),
    ("new\nadd 0 0 0", 2, 4),
    ("new\nadd 0 0 x y", 2, 4),
    # the first row that can't stand
    ("new\nadd 9\nnone", 2, 2),
)


class UserTextTest(FieldsCase):
    def long_rows(self, many):
        return ["new"] + [f"add {number} 0" for number in range(many - 1)]

    def test_written(self):
        self.assertEqual(user_text(FACE, USER), USER_TEXT)

    def test_read_back(self):
        self.same_form(read_user(FACE, USER_TEXT), USER)
        for many in range(1, 6):
            self.same_form(read_user(FACE, user_text(FACE, USER[:many])), USER[:many])

    def test_two_hundred_rows(self):
        text = "\n".join(self.long_rows(200))
        user = read_user(FACE, text)
        self.assertEqual((len(user), user[-1]), (200, ("add", (198, 0))))
        self.assertEqual(user_text(FACE, user), text)

    def test_a_row_too_many(self):
        for more in ("new", "add 199 0", "none", "", " x"):
            text = "\n".join([*self.long_rows(200), more])
            self.refuses_row(BadRow, 201, 0, read_user, FACE, text)
            self.refuses_row(BadRow, 201, 0, read_user, FACE, text + "\nnew")

    def test_a_bad_row_goes_ahead_of_a_row_too_many(self):
        text = "\n".join([*self.long_rows(199), "add 199 0", "new"])
        self.refuses_row(BadRow, 200, 2, read_user, FACE, text)

    def test_refused(self):
        for text, row, word in BAD_TEXTS:
            with self.subTest(text[:40]):
                self.refuses_row(BadRow, row, word, read_user, FACE, text)

    def test_no_text(self):
        for thing in (*ODD_THINGS, 1, (), USER, deep_thing(50000)):
            self.refuses_row(BadRow, 0, 0, read_user, FACE, thing)

    def test_no_face_goes_ahead(self):
        for face in (None, (), ((), ())):
            for text in (USER_TEXT, "", None):
                self.refuses(BadFace, {}, read_user, face, text)


if __name__ == "__main__":
    unittest.main()
