"""Things that many tests hand in, and how a refusal's fields are looked at."""

import unittest

# None of these is a text, a tuple, a whole number.
ODD_THINGS = (None, True, False, 1.5, b"ab", [], ["a"], {}, {"a": 1}, {1, 2}, object(), len)

FACE = (
    ("bag", "key"),
    (
        ("add", ("bag", 3), "bag"),
        ("both", ("bag", "bag", 2), "bag"),
        ("key", (), "key"),
        ("new", (), "bag"),
        ("open", ("bag", "key"), 5),
    ),
)

FACE_TEXT = "\n".join(
    ["hidden bag key", "add bag 3 : bag", "both bag bag 2 : bag", "key : key", "new : bag", "open bag key : 5"]
)


def deep_thing(deep):
    """A tuple that holds a tuple, so many times."""
    thing = ("number", 1)
    for step in range(deep):
        thing = ("plus", thing, ("number", 1))
    return thing


class FieldsCase(unittest.TestCase):
    def refuses(self, error, fields, call, *handed):
        """The call is refused with just this error and these fields."""
        with self.assertRaises(error) as caught:
            call(*handed)
        self.assertIs(type(caught.exception), error)
        for name, value in fields.items():
            told = getattr(caught.exception, name)
            self.assertEqual((name, told, type(told)), (name, value, type(value)), handed)

    def refuses_row(self, error, row, word, call, *handed):
        self.refuses(error, {"row": row, "word": word}, call, *handed)

    def same_form(self, one, other):
        """Equal, and of the same classes all through: True is no 1, a list no tuple."""
        self.assertEqual(repr(one), repr(other))
