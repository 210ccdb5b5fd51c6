"""Things that many tests hand in, and how a refusal's fields are looked at."""

import unittest

# None of these is a text, a tuple, a whole number.
ODD_THINGS = (None, True, False, 1.5, b"ab", [], ["a"], {}, {"a": 1}, {1, 2}, object(), len)

FACE = (
    ("bag", "key"),
    (
        ("add", ("bag", 3), "bag"),
        ("both", ("bag", "bag", 2), "bag"),
        ("key", (), "key"),
        ("new", (), "bag"),
        ("open", ("bag", "key"), 5),
    ),
)

FACE_TEXT = "\n".join(
    ["hidden bag key", "add bag 3 : bag", "both bag bag 2 : bag", "key : key", "new : bag", "open bag key : 5"]
)


def deep_thing(deep):
    """A tuple that holds a tuple, so many times."""
    thing = ("number", 1)
    for step in range(deep):
        thing = ("plus", thing, ("number", 1))
    return thing


class FieldsCase(unittest.TestCase):
    def refuses(self, error, fields, call, *handed):
        """The call is refused with just this error and these fields."""
        with self.assertRaises(error) as caught:
            call(*handed)
        self.assertIs(type(caught.exception), error)
        for name, value in fields.items():
            told = getattr(caught.exception, name)
            self.assertEqual((name, told, type(told)), (name, value, type(value)), handed)

    def refuses_row(self, error, row, word, call, *handed):
        self.refuses(error, {"row": row, "word": word}, call, *handed)

    def same_form(self, one, other):
        """Equal, and of the same classes all through: True is no 1, a list no tuple."""
        self.assertEqual(repr(one), repr(other))


# A making of FACE: a bag is a count below 4 and a mark below 3, a key a number below 2.
MAKING = (
    ((4, 3), (2,)),
    (
        (
            "when",
            ("same", ("in", 1, 0), ("number", 2)),
            ("refuse",),
            ("give", (("plus", ("in", 0, 0), ("number", 1)), ("less", ("in", 0, 1), ("in", 1, 0)))),
        ),
        (
            "give",
            (
                ("if", ("in", 2, 0), ("in", 0, 0), ("in", 1, 0)),
                ("times", ("number", 5), ("less", ("in", 0, 1), ("in", 1, 1))),
            ),
        ),
        ("give", (("number", 3),)),
        ("give", (("number", 0), ("number", 0))),
        (
            "when",
            ("in", 1, 0),
            ("give", (("less", ("rest", ("in", 0, 0), 3), ("number", 4)),)),
            ("give", (("under", ("in", 0, 0), ("in", 0, 1)),)),
        ),
    ),
)

MAKING_TEXT = "\n".join(
    [
        "shape bag 4 3",
        "shape key 2",
        "add when same in 1 0 2 refuse give plus in 0 0 1 , less in 0 1 in 1 0",
        "both give if in 2 0 in 0 0 in 1 0 , times 5 less in 0 1 in 1 1",
        "key give 3",
        "new give 0 , 0",
        "open when in 1 0 give less rest in 0 0 3 4 give under in 0 0 in 0 1",
    ]
)
