import unittest

from sameface import errors

FIELDS = {
    "BadRow": ("row", "word"),
    "BadFace": ("part", "number"),
    "BadMaking": ("part", "number"),
    "BadUser": ("row", "place"),
    "BadSteps": ("number",),
    "BadLead": ("kind", "number"),
    "BadProgram": ("row", "place"),
    "BadModule": ("part", "number"),
    "BadUse": ("number",),
    "BadInput": ("number",),
    "ToldApart": ("user",),
    "BadPaper": ("place",),
}


class ErrorsTest(unittest.TestCase):
    def test_face_error_is_straight_under_value_error(self):
        self.assertEqual(errors.FaceError.__bases__, (ValueError,))

    def test_each_class_is_straight_under_face_error(self):
        for name in [*FIELDS, "Refused", "OutOfPlace", "TooGreat"]:
            with self.subTest(name):
                self.assertEqual(getattr(errors, name).__bases__, (errors.FaceError,))

    def test_fields_are_as_given(self):
        for given in ((1, 2), (None, None), ("hidden", 3), ((0, 1), (("new", ()),)), ([], "x")):
            for name, fields in FIELDS.items():
                with self.subTest(name):
                    error = getattr(errors, name)(*given[: len(fields)])
                    for field, value in zip(fields, given):
                        self.assertIs(getattr(error, field), value)

    def test_fields_are_kept_however_great(self):
        # Python itself writes no number of so many figures.
        for great in (10**4299, 10**4300, 10**5000 + 10**9, -(10**5000)):
            for name, fields in FIELDS.items():
                for at in range(len(fields)):
                    given = [great if place == at else 3 for place in range(len(fields))]
                    with self.subTest(name):
                        error = getattr(errors, name)(*given)
                        self.assertIs(type(error), getattr(errors, name))
                        for field, value in zip(fields, given):
                            self.assertIs(getattr(error, field), value)
                        self.assertIsInstance(str(error), str)
        for place in ((1, 10**5000), (10**5000, 0, -(10**5000)), ((10**5000,),), [10**5000], {10**5000: 1}):
            self.assertIs(errors.BadPaper(place).place, place)

    def test_messages_tell_small_fields(self):
        self.assertEqual(str(errors.BadRow(3, 0)), "row 3, word 0 can't stand")
        self.assertEqual(str(errors.BadFace("deeds", None)), "no face: deeds, none")
        self.assertEqual(str(errors.BadPaper((1, 0, 2))), "no right paper: 1, 0, 2")

    def test_others_are_made_of_a_text(self):
        for name in ("Refused", "OutOfPlace", "TooGreat"):
            self.assertEqual(str(getattr(errors, name)("why")), "why")


if __name__ == "__main__":
    unittest.main()
