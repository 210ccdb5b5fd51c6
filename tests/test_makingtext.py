import unittest

from sameface.errors import BadFace, BadMaking, BadRow
from sameface.makings import is_making
from sameface.makingtext import making_text, read_making
from tests.helpers import FACE, MAKING, MAKING_TEXT, ODD_THINGS, FieldsCase, deep_thing

# "see" takes a box of two fields and a number; "new" takes nothing, "two" gives two fields.
SMALL = (("box",), (("new", (), "box"), ("see", ("box", 3), 9), ("two", (2,), "box")))
ROWS = ["shape box 2 3", "new give 1 , 2", "see give 1", "two refuse"]

# The one face in which kinds and deeds are called as the words of texts are.
WORDY = (
    ("give", "shape"),
    (("give", (), "give"), ("in", ("shape",), "shape"), ("refuse", ("give", 2), 3), ("shape", (), 2), ("when", (), 9)),
)


def with_row(number, row):
    """The small making's text with another row at this number, from 1."""
    return "\n".join(ROWS[: number - 1] + [row] + ROWS[number:])


# (row's number, the row, the word): a row that can't stand, and where.
BAD_ROWS = (
    # blanks amiss, and nothing
    (1, "", 0),
    (1, " shape box 2 3", 0),
    (1, "shape box 2 3 ", 0),
    (1, "shape  box 2 3", 0),
    (1, "box  2", 0),
    (2, "", 0),
    (2, "new give  1 , 2", 0),
    (4, "two refuse ", 0),
    (4, "", 0),
    # shapes
    (1, "box 2 3", 1),
    (1, "Shape box 2 3", 1),
    (1, "shape", 2),
    (1, "shape bag 2 3", 2),
    (1, "shape 2 3", 2),
    (1, "shape box", 3),
    (1, "shape box 1 2", 3),
    (1, "shape box 10", 3),
    (1, "shape box 02", 3),
    (1, "shape box x", 3),
    (1, "shape box , 2", 3),
    (1, "shape box 2 1", 4),
    (1, "shape box 2 ,", 4),
    (1, "shape box 9 2", 4),
    (1, "shape box 4 4 2", 5),
    (1, "shape box 2 2 5", 5),
    (1, "shape box 2 2 2 2", 6),
    (1, "shape box 2 2 2 x", 6),
    # names of deeds
    (2, "see give 1 , 2", 1),
    (2, "give 1 , 2", 1),
    (3, "new give 1", 1),
    (3, "shape box 2 3", 1),
    (4, "twoo refuse", 1),
    # words of bodies
    (2, "new", 2),
    (2, "new 1 , 2", 2),
    (2, "new giv 1 , 2", 2),
    (2, "new Refuse", 2),
    (2, "new in 0 0", 2),
    (2, "new give", 3),
    (2, "new refuse refuse", 3),
    (2, "new refuse ,", 3),
    (3, "see when", 3),
    (3, "see when 1", 4),
    (3, "see when 1 2 refuse refuse", 4),
    (3, "see when give 1 refuse refuse", 3),
    (3, "see when 1 refuse", 5),
    (3, "see when 1 refuse 2", 5),
    (3, "see when 1 refuse refuse refuse", 6),
    (3, "see when 1 give 2 give 3 give 4", 8),
    (3, "see when 1 when 0 refuse refuse", 8),
    # "," between two Es
    (2, "new give 1", 4),
    (2, "new give 1 2", 4),
    (2, "new give 1 ,", 5),
    (2, "new give , 1 2", 3),
    (2, "new give 1 , , 2", 5),
    (2, "new give 1 , 2 ,", 6),
    (2, "new give 1 , 2 , 3", 6),
    (2, "new give 1 , 2 3", 6),
    (3, "see give 1 ,", 4),
    (3, "see give 1 , 2", 4),
    (4, "two when in 0 0 give 1 give 1 , 2", 8),
    (4, "two when in 0 0 , refuse refuse", 6),
    # Es
    (3, "see give x", 3),
    (3, "see give 100", 3),
    (3, "see give 01", 3),
    (3, "see give -1", 3),
    (3, "see give number 1", 3),
    (3, "see give refuse", 3),
    (3, "see give plus", 4),
    (3, "see give plus 1", 5),
    (3, "see give plus 1 , 2", 5),
    (3, "see give plus 1 2 3", 6),
    (3, "see give less 1 x", 5),
    (3, "see give times x 1", 4),
    (3, "see give same 1", 5),
    (3, "see give under 1", 5),
    (3, "see give if 1 2", 6),
    (3, "see give if 1 2 3 4", 7),
    (3, "see give rest", 4),
    (3, "see give rest 1", 5),
    (3, "see give rest 1 1", 5),
    (3, "see give rest 1 0", 5),
    (3, "see give rest 1 100", 5),
    (3, "see give rest 1 in 0 0", 5),
    (3, "see give rest 1 2 3", 6),
    (3, "see give rest plus 1 2 1", 7),
    # what is handed in
    (3, "see give in", 4),
    (3, "see give in 2 0", 4),
    (3, "see give in x 0", 4),
    (3, "see give in 00 0", 4),
    (3, "see give in plus 0", 4),
    (3, "see give in 0", 5),
    (3, "see give in 0 2", 5),
    (3, "see give in 0 x", 5),
    (3, "see give in 1 1", 5),
    (3, "see give in 1 0 0", 6),
    (2, "new give in", 4),
    (2, "new give in 0 0 , 1", 4),
    (2, "new give 1 , in 0 0", 6),
    (4, "two give in 1 0 , 2", 4),
    (4, "two give in 0 1 , 2", 5),
)


class MakingTextTest(FieldsCase):
    def no_text(self, text, row, word):
        self.refuses_row(BadRow, row, word, read_making, SMALL, text)

    def test_written(self):
        self.assertEqual(making_text(FACE, MAKING), MAKING_TEXT)

    def test_read_back(self):
        self.same_form(read_making(FACE, MAKING_TEXT), MAKING)

    def test_each_word_written_and_read(self):
        bodies = (
            "give 0",
            "give 99",
            "give in 0 0",
            "give in 0 1",
            "give in 1 0",
            "give plus 1 2",
            "give less 1 2",
            "give times 1 2",
            "give same 1 2",
            "give under 1 2",
            "give if 1 2 3",
            "give rest 1 2",
            "give rest in 0 1 99",
            "give rest rest 1 2 3",
            "refuse",
            "when in 1 0 refuse give 1",
            "when if 1 2 3 when 1 give 2 refuse when 0 give 4 give rest 5 6",
        )
        for body in bodies:
            text = with_row(3, f"see {body}")
            making = read_making(SMALL, text)
            self.assertIs(is_making(SMALL, making), True)
            self.assertEqual(making_text(SMALL, making), text)

    def test_read_as(self):
        body = read_making(SMALL, with_row(3, "see when in 0 1 give if 1 rest 2 3 less in 1 0 4 refuse"))[1][1]
        expression = ("if", ("number", 1), ("rest", ("number", 2), 3), ("less", ("in", 1, 0), ("number", 4)))
        self.same_form(body, ("when", ("in", 0, 1), ("give", (expression,)), ("refuse",)))
        body = read_making(SMALL, with_row(4, "two give 1 , plus in 0 0 2"))[1][2]
        self.same_form(body, ("give", (("number", 1), ("plus", ("in", 0, 0), ("number", 2)))))

    def test_shapes_read(self):
        for words, shape in (("2", (2,)), ("9", (9,)), ("2 8", (2, 8)), ("4 2 2", (4, 2, 2)), ("2 2 2", (2, 2, 2))):
            text = "\n".join([f"shape box {words}", "new refuse", "see refuse", "two refuse"])
            self.same_form(read_making(SMALL, text)[0], (shape,))

    def test_refused_rows(self):
        for number, row, word in BAD_ROWS:
            with self.subTest(row):
                self.no_text(with_row(number, row), number, word)

    def test_the_first_row_that_cant_stand(self):
        self.no_text("shape box 1\nnew x\n\n\n\n\n", 1, 3)
        self.no_text("\n".join([*ROWS[:2], "see give x", "", "more"]), 3, 3)

    def test_rows_that_lack(self):
        self.no_text("", 1, 0)
        for many in (1, 2, 3):
            self.no_text("\n".join(ROWS[:many]), many + 1, 1)
        two = (("a", "b"), (("c", (), 2),))
        self.refuses_row(BadRow, 2, 1, read_making, two, "shape a 2")

    def test_rows_too_many(self):
        for more in ("", " ", "two refuse", "x  y", "shape box 2", "zed refuse"):
            self.no_text("\n".join([*ROWS, more]), 5, 0)
            self.no_text("\n".join([*ROWS, more, more]), 5, 0)

    def test_shapes_in_the_faces_order(self):
        two = (("a", "b"), (("c", (), 2),))
        self.refuses_row(BadRow, 1, 2, read_making, two, "shape b 2\nshape a 2\nc refuse")
        self.refuses_row(BadRow, 2, 2, read_making, two, "shape a 2\nshape a 2\nc refuse")
        self.refuses_row(BadRow, 2, 1, read_making, two, "shape a 2\nc refuse")

    def test_no_text(self):
        for thing in (*ODD_THINGS, 1, (), MAKING, deep_thing(50000)):
            self.no_text(thing, 0, 0)

    def test_no_face_goes_ahead(self):
        for face in (None, (), ((), ())):
            for text in (MAKING_TEXT, "", None):
                self.refuses(BadFace, {}, read_making, face, text)
        self.refuses(BadFace, {"part": "hidden", "number": None}, making_text, ((), ()), None)
        self.refuses(BadMaking, {"part": None, "number": None}, making_text, FACE, None)

    def test_names_as_the_words_of_texts(self):
        text = "\n".join(
            [
                "shape give 2",
                "shape shape 2 2",
                "give give 1",
                "in give in 0 0 , in 0 1",
                "refuse when in 1 0 give in 0 0 refuse",
                "shape refuse",
                "when when 1 refuse refuse",
            ]
        )
        self.assertEqual(making_text(WORDY, read_making(WORDY, text)), text)


class TooGreatTest(FieldsCase):
    def see(self, words):
        return read_making(SMALL, with_row(3, " ".join(["see", *words])))

    def refused_at(self, words, word):
        self.refuses_row(BadRow, 3, word, self.see, words)

    def test_deep_expressions(self):
        # "give" is 1 deep, six "rest" are 2 to 7, the number 8.
        self.see(["give"] + ["rest"] * 6 + ["1"] + ["2"] * 6)
        self.refused_at(["give"] + ["rest"] * 7 + ["1"] + ["2"] * 7, 10)
        self.refused_at(["give"] + ["rest"] * 8, 10)
        self.refused_at(["give"] + ["rest"] * 7, 10)
        self.refused_at(["give"] + ["plus"] * 7 + ["x"], 10)
        self.refused_at(["give"] + ["plus"] * 9000, 10)

    def test_deep_bodies(self):
        # Seven "when" are 1 to 7 deep, what stands in the last one 8.
        tail = ["refuse"] * 8
        self.see(["when", "1"] * 7 + tail)
        self.refused_at(["when", "1"] * 8 + tail + ["refuse"], 17)
        # The eighth "when" stands, its E is too deep.
        self.refused_at(["when", "1"] * 7 + ["when"], 17)
        # A "give" 8 deep stands, its E doesn't.
        self.refused_at(["when", "1"] * 7 + ["give", "1"] + ["refuse"] * 7, 17)

    def test_deep_behind_others(self):
        self.refused_at(["when"] + ["rest"] * 6 + ["1"] + ["2"] * 6 + ["give"] + ["rest"] * 7 + ["1"], 23)

    def test_deep_in_further_places(self):
        # Six "plus", 2 to 7 deep, each in the second place of the one ahead; then seven.
        self.see(["give"] + ["plus", "1"] * 6 + ["1"])
        self.refused_at(["give"] + ["plus", "1"] * 7 + ["1"], 16)
        self.see(["give"] + ["if", "1", "1"] * 6 + ["1"])
        self.refused_at(["give"] + ["if", "1", "1"] * 7 + ["1"], 22)
        self.see(["when", "1", "refuse"] * 7 + ["refuse"])
        self.refused_at(["when", "1", "refuse"] * 8 + ["refuse"], 24)
        self.refused_at(["when", "1", "refuse"] * 7 + ["give", "1"], 24)
        text = with_row(4, "two give 1 , " + "rest " * 7 + "1")
        self.refuses_row(BadRow, 4, 12, read_making, SMALL, text)

    def test_parts(self):
        # "give" and five levels of "plus": 1 + 63 parts; behind the NAME the 61st begins at word 62.
        def tree(deep):
            return ["1"] if deep == 0 else ["plus", *tree(deep - 1), *tree(deep - 1)]

        self.refused_at(["give", *tree(5)], 62)
        self.see(["give", *tree(4)])

    def test_sixty_parts_stand(self):
        # Each "when 1" here is two parts, each "refuse" one; "rest" is one part and two words.
        def tree(leaves):
            if leaves == 1:
                return ["refuse"]
            return ["when", "1", *tree(leaves // 2), *tree(leaves - leaves // 2)]

        words = tree(20)
        self.assertEqual(len(words), 58)
        self.see(words)
        self.see(["when", "rest", "rest", "1", "5", "5", *words[2:]])
        self.refused_at(["when", "rest", "rest", "rest", "1", "5", "5", "5", *words[2:]], len(words) + 6 + 1)
        # The 61st part is refused even where it would be none at all.
        self.refused_at(["when", "rest", "rest", "rest", "1", "5", "5", "5", *words[2:-1], "x"], len(words) + 6 + 1)
        self.refused_at(tree(21), 62)

    def test_a_body_that_lacks(self):
        self.refused_at(["when", "1"] * 7 + ["refuse"] * 7, 23)


if __name__ == "__main__":
    unittest.main()
