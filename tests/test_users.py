import unittest

from sameface.errors import BadFace, BadUser
from sameface.users import is_user, kind_told, need_user
from sameface.usertext import user_text
from tests.helpers import FACE, ODD_THINGS, FieldsCase, deep_thing

NEW = ("new", ())
KEY = ("key", ())
USER = (NEW, ("add", (0, 2)), KEY, ("both", (0, 1, 1)), ("open", (3, 2)))


class UserTest(FieldsCase):
    def no_user(self, thing, row, place):
        self.assertIs(is_user(FACE, thing), False)
        for call in (need_user, kind_told, user_text):
            self.refuses(BadUser, {"row": row, "place": place}, call, FACE, thing)

    def test_users(self):
        for user in (USER, (NEW,), (KEY, KEY), (NEW, ("both", (0, 0, 0))), (NEW,) * 200, (NEW, KEY, ("open", (0, 1)))):
            self.assertIs(is_user(FACE, user), True, user)
            self.assertIsNone(need_user(FACE, user))

    def test_two_hundred_rows(self):
        rows = [NEW]
        for number in range(199):
            rows.append(("add", (number, 0)))
        self.assertIs(is_user(FACE, tuple(rows)), True)
        self.no_user((*rows, NEW), None, None)
        self.no_user((*rows, None), None, None)

    def test_no_tuple_of_so_many(self):
        for thing in (*ODD_THINGS, 1, "new", (), [NEW], (NEW,) * 201, list(USER)):
            self.no_user(thing, None, None)

    def test_rows_that_are_none(self):
        others = ((), ("new",), ("new", (), ()), ["new", ()], "new", "ab", ("none", ()), ("bag", ()), ("", ()))
        others = (*others, (None, ()), (1, ()), (["new"], ()), (("new",), ()), ({}, ()), ("new", []), ("new", None))
        others = (*others, ("new", (0,)), ("new", ""), ("add", ()), ("add", (0,)), ("add", (0, 0, 0)), ("add", [0, 0]))
        for row in (*ODD_THINGS, *others, 1, deep_thing(50000)):
            self.no_user((row,), 0, None)
            self.no_user((NEW, row), 1, None)
            self.no_user((NEW, row, None), 1, None)

    def test_things_for_plain_kinds(self):
        for thing in (*ODD_THINGS, 3, -1, "1", (1,), deep_thing(50000)):
            self.no_user((NEW, ("add", (0, thing))), 1, 1)
            self.no_user((NEW, ("add", (0, thing)), None), 1, 1)
        for number in range(3):
            self.assertIs(is_user(FACE, (NEW, ("add", (0, number)))), True)

    def test_things_for_hidden_kinds(self):
        # Row 1 gives a key; row 3 is the row itself, row 4 stands behind it.
        for thing in (*ODD_THINGS, 1, 3, 4, 5, -1, "0", "bag", (0,), deep_thing(50000)):
            self.no_user((NEW, KEY, NEW, ("add", (thing, 0)), NEW), 3, 0)
            self.no_user((NEW, KEY, NEW, ("both", (2, thing, 0)), NEW), 3, 1)
        for thing in (0, 2):
            self.assertIs(is_user(FACE, (NEW, KEY, NEW, ("add", (thing, 0)), NEW)), True)

    def test_rows_that_give_numbers_cant_be_handed(self):
        self.no_user((NEW, KEY, ("open", (0, 1)), ("add", (2, 0))), 3, 0)

    def test_the_first_place(self):
        self.no_user((("open", (0, 0)),), 0, 0)
        self.no_user((NEW, ("open", (0, 0))), 1, 1)
        self.no_user((KEY, ("open", (0, 0))), 1, 0)
        self.no_user((NEW, ("both", (0, 1, 9))), 1, 1)
        self.no_user((NEW, ("both", (0, 0, 2))), 1, 2)

    def test_kind_told(self):
        for many, kind in enumerate(("bag", "bag", "key", "bag", 5), start=1):
            self.assertEqual(kind_told(FACE, USER[:many]), kind)

    def test_no_face_goes_ahead(self):
        for face in (None, (), ((), ())):
            for user in (USER, None, ()):
                for call in (is_user, need_user, kind_told, user_text):
                    self.refuses(BadFace, {}, call, face, user)


if __name__ == "__main__":
    unittest.main()
