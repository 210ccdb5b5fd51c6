import unittest

from sameface import errors

FIELDS = {
    "BadRow": ("row", "word"),
    "BadFace": ("part", "number"),
    "BadMaking": ("part", "number"),
    "BadUser": ("row", "place"),
    "BadSteps": ("number",),
    "BadLead": ("kind", "number"),
    "BadProgram": ("row", "place"),
    "BadModule": ("part", "number"),
    "BadUse": ("number",),
    "BadInput": ("number",),
    "ToldApart": ("user",),
    "BadPaper": ("place",),
}


class ErrorsTest(unittest.TestCase):
    def test_face_error_is_straight_under_value_error(self):
        self.assertEqual(errors.FaceError.__bases__, (ValueError,))

    def test_each_class_is_straight_under_face_error(self):
        for name in [*FIELDS, "Refused", "OutOfPlace", "TooGreat"]:
            with self.subTest(name):
                self.assertEqual(getattr(errors, name).__bases__, (errors.FaceError,))

    def test_fields_are_as_given(self):
        for given in ((1, 2), (None, None), ("hidden", 3), ((0, 1), (("new", ()),)), ([], "x")):
            for name, fields in FIELDS.items():
                with self.subTest(name):
                    error = getattr(errors, name)(*given[: len(fields)])
                    for field, value in zip(fields, given):
                        self.assertIs(getattr(error, field), value)

    def test_others_are_made_of_a_text(self):
        for name in ("Refused", "OutOfPlace", "TooGreat"):
            self.assertEqual(str(getattr(errors, name)("why")), "why")


if __name__ == "__main__":
    unittest.main()
