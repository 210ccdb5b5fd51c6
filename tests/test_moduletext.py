import random
import unittest

from sameface.errors import BadFace, BadModule, BadRow
from sameface.facetext import read_face
from sameface.makingtext import making_text
from sameface.moduletext import module_text, read_module
from tests.helpers import (
    FACE,
    MAKING,
    MAKING_TEXT,
    ODD_THINGS,
    FieldsCase,
    chance_face,
    chance_making,
    deep_thing,
    spoilt,
)
from tests.modulehelp import chance_module, plain_is_module
from tests.test_makingtext import BAD_ROWS, ROWS, SMALL
from tests.test_modules import LOWER, MODULE, UPPER

TEXT = "\n".join(
    [
        "shape box of cell 4 of tag",
        "shape coin 6",
        "both call put in 0 0 , times 2 in 1 0 when in 2 0 call mark plus in 0 1 2 give got 0 , 5 , got 1 "
        "give got 0 , in 0 1 , in 0 2",
        "count give in 0 0",
        "new call make call mark 0 give got 0 , 0 , got 1",
        "see call pay in 0 0 call get got 0 call name in 0 2 give plus times got 1 3 got 2",
        "toss give in 0 0",
    ]
)
TEXT_ROWS = TEXT.split("\n")

# (row's number, the row, the word): a row that can't stand, and where. Row 3 is of "both", which is handed a box
# (a cell, a number, a tag), a coin (a number) and a number; row 5 of "new", which is handed nothing; both give a box.
# Row 6 is of "see", handed a box, and gives a number.
BAD_CALLS = (
    # fields
    (1, "shape box of", 4),
    (1, "shape box of none", 4),
    (1, "shape box of box", 4),
    (1, "shape box of 4", 4),
    (1, "shape box cell", 3),
    (1, "shape box Of cell", 3),
    (1, "shape box of cell of", 6),
    (1, "shape box of cell tag", 5),
    (1, "shape box of cell of tag 4 of cell", 8),
    (1, "shape box of cell of tag 4 of", 8),
    (1, "shape box of cell of tag 4 of none", 8),
    (1, "shape box of cell of tag 4 2", 8),
    (1, "shape box 2 2 2 of cell", 6),
    (1, "shape box 9 of cell 2", 6),
    (1, "shape box 9 2 of cell", 4),
    (1, "shape box of cell 1", 5),
    (1, "shape box of cell 10", 5),
    (1, "shape box of cell ,", 5),
    (1, "shape box", 3),
    (2, "shape coin of", 4),
    # calls
    (3, "both call", 3),
    (3, "both call none", 3),
    (3, "both call both", 3),
    (3, "both call Make refuse", 3),
    (3, "both call make", 4),
    (3, "both call make in 0 0", 4),
    (3, "both call make ,", 4),
    (3, "both call make , refuse", 4),
    (3, "both call make refuse refuse", 5),
    (3, "both call make 1 refuse", 4),
    (3, "both call mark", 4),
    (3, "both call mark refuse", 4),
    (3, "both call mark 1", 5),
    (3, "both call mark 1 , refuse", 5),
    (3, "both call mark 1 2 refuse", 5),
    (3, "both call put in 0 0", 7),
    (3, "both call put in 0 0 1 refuse", 7),
    (3, "both call put in 0 0 refuse", 7),
    (3, "both call put in 0 0 ,", 8),
    (3, "both call put in 0 0 , refuse", 8),
    (3, "both call put in 0 0 , 1", 9),
    (3, "both call put in 0 0 , 1 , refuse", 9),
    (3, "both call put , in 0 0 1 refuse", 4),
    (3, "both give call make refuse", 3),
    (3, "both when call make refuse refuse refuse", 3),
    (3, "call make refuse", 1),
    # where a W is wanted
    (3, "both give 1 , 1 , in 0 2", 3),
    (3, "both give plus 1 1 , 1 , in 0 2", 3),
    (3, "both give if 1 in 0 0 in 0 0 , 1 , in 0 2", 3),
    (3, "both give rest in 0 0 2 , 1 , in 0 2", 3),
    (3, "both give , 1 , in 0 2", 3),
    (3, "both give", 3),
    (3, "both give of cell , 1 , in 0 2", 3),
    (3, "both give in", 4),
    (3, "both give in x 0 , 1 , in 0 2", 4),
    (3, "both give in 1 0 , 1 , in 0 2", 4),
    (3, "both give in 2 0 , 1 , in 0 2", 4),
    (3, "both give in 3 0 , 1 , in 0 2", 4),
    (3, "both give in 0", 5),
    (3, "both give in 0 1 , 1 , in 0 2", 5),
    (3, "both give in 0 2 , 1 , in 0 2", 5),
    (3, "both give in 0 3 , 1 , in 0 2", 5),
    (3, "both give in 0 00 , 1 , in 0 2", 5),
    (3, "both give in 0 0 , 1 , in 0 0", 11),
    (3, "both give in 0 0 , in 0 0 , in 0 2", 9),
    (3, "both give got", 4),
    (3, "both give got 0 , 1 , in 0 2", 4),
    (3, "both call mark 1 give got 0 , 1 , in 0 2", 7),
    (3, "both call make give got 1 , 1 , in 0 2", 6),
    (3, "both call make give got 00 , 1 , in 0 2", 6),
    (3, "both call make give got x , 1 , in 0 2", 6),
    (3, "both call get in 0 0 give got 0 , 1 , in 0 2", 9),
    (3, "both call get in 0 2 refuse", 6),
    (3, "both call get in 1 0 refuse", 5),
    (3, "both call get got 0 refuse", 5),
    (3, "both call get 1 refuse", 4),
    (3, "both call name in 0 0 refuse", 6),
    (3, "both call make call name got 0 refuse", 7),
    (5, "new give in", 4),
    (5, "new give in 0 0 , 0 , got 0", 4),
    (5, "new call make give got 0 , 0 , got 0", 11),
    # where an E is wanted
    (3, "both give in 0 0 , in 0 2 , in 0 2", 9),
    (3, "both give in 0 0 , got , in 0 2", 8),
    (3, "both give in 0 0 , got 0 , in 0 2", 8),
    (3, "both give in 0 0 , plus 1 in 0 0 , in 0 2", 11),
    (3, "both when in 0 0 refuse refuse", 5),
    (3, "both when in 0 3 refuse refuse", 5),
    (3, "both when in 3 0 refuse refuse", 4),
    (3, "both when in 1 1 refuse refuse", 5),
    (3, "both when in 2 1 refuse refuse", 5),
    (3, "both when got 0 refuse refuse", 4),
    (3, "both when got refuse refuse", 4),
    (3, "both call make when got 0 refuse refuse", 6),
    (3, "both call get in 0 0 when got 1 refuse refuse", 9),
    (3, "both call get in 0 0 when got 0 0 refuse refuse", 10),
    (3, "both call mark got 0 refuse", 5),
    (3, "both call mark in 0 0 refuse", 6),
    (4, "count give in 0 1", 5),
    (4, "count give in 1 0", 4),
    (5, "new when in refuse refuse", 4),
    (6, "see give in 0 0", 5),
    (6, "see give got 0", 4),
    # behind a call's end its got is none
    (3, "both when 1 call make refuse call get got 0 refuse", 10),
)


class WrittenTest(FieldsCase):
    def test_written(self):
        self.assertEqual(module_text(UPPER, LOWER, MODULE), TEXT)
        self.same_form(read_module(UPPER, LOWER, TEXT), MODULE)

    def test_makings(self):
        self.assertEqual(module_text(FACE, LOWER, MAKING), MAKING_TEXT)
        self.same_form(read_module(FACE, LOWER, MAKING_TEXT), MAKING)
        rng = random.Random(81)
        for step in range(60):
            face = chance_face(rng)
            making = chance_making(rng, face)
            text = making_text(face, making)
            self.assertEqual(module_text(face, LOWER, making), text)
            self.same_form(read_module(face, LOWER, text), making)

    def test_chance_modules(self):
        rng = random.Random(82)
        for step in range(200):
            upper, lower = chance_face(rng), chance_face(rng)
            module = chance_module(rng, upper, lower)
            self.same_form(read_module(upper, lower, module_text(upper, lower, module)), module)

    def test_faces_whose_names_are_words(self):
        upper = read_face("hidden of\ncall of : of\ngive of : 2\ngot : of")
        lower = read_face("hidden got of\ncall of : of\nin : of\nof got : 3\nwhen 3 : got")
        text = (
            "shape of of of of got\ncall call call in 0 0 give got 0 , in 0 1\n"
            "give call of in 0 1 give got 0\ngot call in call when 2 give got 0 , got 1"
        )
        module = read_module(upper, lower, text)
        self.assertEqual(module[0], ((("of", "of"), ("of", "got")),))
        self.assertEqual(module[1][1], ("call", "of", (("in", 0, 1),), ("give", (("got", 0),))))
        self.assertEqual(module_text(upper, lower, module), text)

    def test_no_module(self):
        nothing = {"part": None, "number": None}
        for thing in (*ODD_THINGS, 1, "ab", (), TEXT, deep_thing(50000)):
            self.refuses(BadFace, nothing, module_text, thing, thing, thing)
            self.refuses(BadFace, nothing, module_text, UPPER, thing, thing)
            self.refuses(BadModule, nothing, module_text, UPPER, LOWER, thing)


class ReadTest(FieldsCase):
    def bad(self, row, word, text, upper=UPPER, lower=LOWER):
        self.refuses_row(BadRow, row, word, read_module, upper, lower, text)

    def test_no_faces_then_no_text(self):
        nothing = {"part": None, "number": None}
        for thing in (*ODD_THINGS, 1, (), ("ab",), deep_thing(50000)):
            self.refuses(BadFace, nothing, read_module, thing, thing, thing)
            self.refuses(BadFace, nothing, read_module, UPPER, thing, thing)
            self.bad(0, 0, thing)

    def test_rows_of_makings_are_refused_as_there(self):
        for number, row, word in BAD_ROWS:
            text = "\n".join(ROWS[: number - 1] + [row] + ROWS[number:])
            self.bad(number, word, text, SMALL, LOWER)

    def test_rows_of_modules(self):
        for number, row, word in BAD_CALLS:
            with self.subTest(row):
                self.bad(number, word, "\n".join(TEXT_ROWS[: number - 1] + [row] + TEXT_ROWS[number:]))

    def test_rows_that_lack_or_are_too_many(self):
        for many in range(1, 7):
            self.bad(many + 1, 1, "\n".join(TEXT_ROWS[:many]))
        self.bad(1, 0, "")
        for row in ("", "toss give 1", "??", "a  b"):
            self.bad(8, 0, f"{TEXT}\n{row}")

    def test_parts(self):
        # A call, its W, a give, a W, an E of 55, a W are sixty.
        def summed(many):
            half = (many - 1) // 2
            half -= 1 - half % 2
            return "1" if many == 1 else f"plus {summed(half)} {summed(many - 1 - half)}"

        def text(row):
            return "\n".join([*TEXT_ROWS[:2], row, *TEXT_ROWS[3:]])

        right = f"both call get in 0 0 give in 0 0 , {summed(55)} , in 0 2"
        self.assertEqual(len(read_module(UPPER, LOWER, text(right))[1]), 5)
        # The sixty-first is the last W, then the last number of an E.
        row = f"both call put in 0 0 , 1 give in 0 0 , {summed(55)} , in 0 2"
        self.bad(3, len(row.split(" ")) - 2, text(row))
        row = f"both give in 0 0 , {summed(59)} , in 0 2"
        self.bad(3, len(row.split(" ")) - 4, text(row))
        row = f"both call put in 0 0 , {summed(57)} refuse"
        self.assertEqual(len(read_module(UPPER, LOWER, text(row))[1]), 5)
        row = f"both call put in 0 0 , {summed(57)} call make refuse"
        self.bad(3, len(row.split(" ")), text(row))
        row = f"both call put in 0 0 , {summed(59)} refuse"
        self.bad(3, len(row.split(" ")) - 1, text(row))

    def test_depth(self):
        def text(row):
            return "\n".join([*TEXT_ROWS[:2], row, *TEXT_ROWS[3:]])

        calls = "call make " * 6
        self.assertEqual(len(read_module(UPPER, LOWER, text(f"both {calls}give got 5 , 1 , in 0 2"))[1]), 5)
        self.assertEqual(len(read_module(UPPER, LOWER, text(f"both {calls}call make refuse"))[1]), 5)
        # A W, an E, a body at nine.
        self.bad(3, 17, text(f"both {calls}call make give got 5 , 1 , in 0 2"))
        self.bad(3, 19, text(f"both {calls}call get got 0 give in 0 0 , 1 , in 0 2"))
        self.bad(3, 17, text(f"both {calls}call mark rest 1 2 refuse"))
        self.bad(3, 18, text(f"both {calls}call make call make refuse"))

    def test_spoilt_texts(self):
        rng = random.Random(83)
        read = 0
        for step in range(600):
            words = spoilt(rng, tuple(TEXT.split(" ")))
            text = " ".join(str(word) for word in words) if isinstance(words, tuple) else TEXT
            try:
                module = read_module(UPPER, LOWER, text)
            except BadRow:
                continue
            read += 1
            self.assertIsNone(plain_is_module(UPPER, LOWER, module))
            self.assertEqual(module_text(UPPER, LOWER, module), text)
        self.assertGreater(read, 20)


if __name__ == "__main__":
    unittest.main()
