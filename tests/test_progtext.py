import random
import re
import unittest

from sameface.errors import BadProgram, BadRow
from sameface.facetext import face_text, read_face
from sameface.kinds import is_program
from sameface.progtext import program_text, read_program
from tests.helpers import ODD_THINGS, FieldsCase, chance_program, deep_thing
from tests.test_programs import CELL, PAIR, let, name, number, pick, put, say

ROWS = (
    let("c", "one", "make"),
    let("d", "one", "put", name("c"), put(0)),
    let("n", "one", "see", name("d")),
    pick("p", name("n"), number(8), put(1)),
    say(name("p")),
    let("z", "one", "zone", number(0), number(1), number(2)),
    say(number(0)),
    say(put(1)),
)
PROGRAM = ((("one", CELL), ("three", PAIR)), (4, 9), ROWS)
# Of the whole text these are the rows from 1 to 13.
HEAD = f"use one\n{face_text(CELL)}\nuse three\n{face_text(PAIR)}\ninputs 4 9"
TEXT = "\n".join(
    [HEAD, "let c one make", "let d one put c $0", "let n one see d", "pick p n 8 $1", "say p", "let z one zone 0 1 2"]
    + ["say 0", "say $1"]
)
FACE = read_face("hidden a\nnew : a")
SHORT = "use b\nhidden a\nnew : a\ninputs"


SPOILS = [*"use inputs let pick say : a hidden b 2 9 0 8 $0 $3 10 new".split(" "), ""]


def spoilt_text(rng, text):
    """A text with a word or a row exchanged, put in, or left out."""
    rows = text.split("\n")
    at, chance = rng.randrange(len(rows)), rng.random()
    words = rows[at].split(" ")
    place = rng.randrange(len(words))
    if chance < 0.6:
        words[place : place + rng.choice((0, 1))] = [rng.choice(SPOILS)] if chance < 0.45 else []
        rows[at] = " ".join(words)
    elif chance < 0.7:
        del rows[at]
    elif chance < 0.8:
        rows.insert(at, rng.choice(rows))
    elif chance < 0.9:
        rows = rows[:at]
    else:
        rows += [rng.choice(rows)] * rng.choice((1, 1, 31))
    return "\n".join(rows)


class WontStand(Exception):
    """A row and its first word that can't stand."""


class PlainReader:
    """Reads a program's text as the document says it: what each word of a row must match."""

    name, arg, kind = "[a-z]{1,8}", r"[a-z]{1,8}|[0-8]|\$[0-2]", "[2-9]"

    def __init__(self, text):
        self.rows = text.split("\n")
        self.at = 0

    def words(self):
        """The words of the next row."""
        if self.at >= len(self.rows):
            raise WontStand(self.at + 1, 1)
        words = self.rows[self.at].split(" ")
        if "" in words:
            raise WontStand(self.at + 1, 0)
        return words

    def match(self, wanted, more=()):
        """The words of the next row, gone by: so many wanted, and perhaps some more."""
        words = self.words()
        self.at += 1
        for place, pattern in enumerate(wanted):
            if place >= len(words) or not re.fullmatch(pattern, words[place]):
                raise WontStand(self.at, place + 1)
        for place in range(len(wanted), len(words)):
            if place - len(wanted) >= len(more) or not re.fullmatch(more[place - len(wanted)], words[place]):
                raise WontStand(self.at, place + 1)
        return words

    def face(self):
        """The face of the next rows."""
        start = self.at
        self.at += 1
        while self.at < len(self.rows) and not self.is_behind_faces(self.rows[self.at].split(" ")):
            self.at += 1
        if start >= len(self.rows):
            raise WontStand(start + 1, 1)
        try:
            return read_face("\n".join(self.rows[start : self.at]))
        except BadRow as refusal:
            raise WontStand(start + refusal.row, refusal.word)

    def is_behind_faces(self, words):
        return "" not in words and ":" not in words

    def read_arg(self, word):
        if word[0] == "$":
            return put(int(word[1:]))
        return number(int(word)) if word.isdigit() else name(word)

    def read(self):
        uses = []
        while not uses or (len(uses) < 4 and self.words()[0] == "use"):
            label = self.match(["use", self.name])[1]
            uses.append((label, self.face()))
        inputs = tuple(int(word) for word in self.match(["inputs"], [self.kind] * 3)[1:])
        rows = []
        while self.at < len(self.rows):
            word = self.words()[0]
            if word not in ("let", "pick", "say") or len(rows) == 30:
                raise WontStand(self.at + 1, 1)
            if word == "let":
                words = self.match([word, self.name, self.name, self.name], [self.arg] * 3)
                rows.append((*words[:4], tuple(map(self.read_arg, words[4:]))))
            elif word == "pick":
                words = self.match([word, self.name, self.arg, self.arg, self.arg])
                rows.append((*words[:2], *map(self.read_arg, words[2:])))
            else:
                rows.append((word, self.read_arg(self.match([word, self.arg])[1])))
        return (tuple(uses), inputs, tuple(rows))


class WrittenTest(FieldsCase):
    def test_written(self):
        self.assertEqual(program_text(PROGRAM), TEXT)
        self.same_form(read_program(TEXT), PROGRAM)

    def test_no_inputs_no_rows(self):
        program = ((("b", FACE),), (), ())
        self.assertEqual(program_text(program), SHORT)
        self.same_form(read_program(SHORT), program)

    def test_no_program(self):
        nothing = {"row": None, "place": None}
        for thing in (*ODD_THINGS, 0, TEXT, (), PROGRAM[:2], deep_thing(50000)[:2]):
            self.refuses(BadProgram, nothing, program_text, thing)
        self.refuses(BadProgram, {"row": "uses", "place": 1}, program_text, (PROGRAM[0][:1] * 2, (), ()))
        self.refuses(BadProgram, {"row": 0, "place": 4}, program_text, (*PROGRAM[:2], ROWS[2:]))

    def test_chance_programs(self):
        rng = random.Random(64)
        for step in range(200):
            program = chance_program(rng)
            self.same_form(read_program(program_text(program)), program)

    def test_read_by_its_form(self):
        # Labels told twice, names told twice or nowhere, inputs that aren't there, deeds and kinds of anything.
        text = f"{SHORT}\nlet a a a\nlet a none none 8 $2 none\npick a a 0 $2\nsay a"
        text = text.replace("inputs", "use b\nhidden a\nnew 9 8 : 2\ninputs 2 3")
        rows = (
            let("a", "a", "a"),
            let("a", "none", "none", number(8), put(2), name("none")),
            pick("a", name("a"), number(0), put(2)),
            say(name("a")),
        )
        told = ((("b", FACE), ("b", (("a",), (("new", (9, 8), 2),)))), (2, 3), rows)
        self.same_form(read_program(text), told)
        self.assertIs(is_program(told), False)


class ReadTest(FieldsCase):
    def bad(self, row, word, text):
        self.refuses_row(BadRow, row, word, read_program, text)

    def bad_row(self, word, row):
        """Behind the head, and behind a right row."""
        self.bad(14, word, f"{HEAD}\n{row}")
        self.bad(15, word, f"{HEAD}\nsay 0\n{row}")
        self.bad(15, word, f"{HEAD}\nsay 0\n{row}\n??")

    def right_row(self, row, told):
        self.same_form(read_program(f"{HEAD}\n{row}")[2], (told,))

    def test_no_text(self):
        for thing in (*ODD_THINGS, 0, (), ("use a",), deep_thing(50000)):
            self.bad(0, 0, thing)

    def test_rows_that_lack(self):
        self.bad(1, 0, "")
        self.bad(2, 1, "use b")
        self.bad(3, 1, "use b\nhidden a")
        self.bad(4, 1, "use b\nhidden a\nnew : a")
        self.bad(6, 1, "use b\nhidden a\nnew : a\nuse c\nhidden a")
        self.bad(7, 1, "use b\nhidden a\nnew : a\nuse c\nhidden a\nnew : a")
        # Where a face has no deed, it is the row behind, whatever that is.
        self.bad(3, 1, "use b\nhidden a\ninputs")
        self.bad(3, 1, "use b\nhidden a\nuse c\nhidden a\nnew : a\ninputs")
        self.bad(4, 0, "use b\nhidden a\nnew : a\n")
        self.bad(5, 0, f"{SHORT}\n")

    def test_uses(self):
        for text, word in (
            ("inputs", 1),
            ("uses b", 1),
            ("Use b", 1),
            ("use", 2),
            ("use B", 2),
            ("use 1", 2),
            ("use abcdefghi", 2),
            ("use b c", 3),
            ("use b :", 3),
            (" use b", 0),
            ("use b ", 0),
            ("use  b", 0),
            ("hidden a", 1),
            ("say 0", 1),
        ):
            self.bad(1, word, f"{text}\nhidden a\nnew : a\ninputs")
            if word and text not in ("inputs", "use b :"):
                self.bad(4, word, f"use z\nhidden a\nnew : a\n{text}\nhidden a\nnew : a\ninputs")
        # A row with a ":", or in which other than single blanks stand, is the face's: "use" a deed's name, b no kind.
        self.bad(4, 2, "use z\nhidden a\nnew : a\nuse b :\nhidden a\nnew : a\ninputs")
        self.bad(4, 0, "use z\nhidden a\nnew : a\nuse  b\nhidden a\nnew : a\ninputs")
        self.bad(4, 0, "use z\nhidden a\nnew : a\n\nhidden a\nnew : a\ninputs")

    def test_a_fifth_use(self):
        use = "use b\nhidden a\nnew : a\n"
        told = (("b", FACE),) * 4
        self.same_form(read_program(use * 4 + "inputs"), (told, (), ()))
        self.bad(13, 1, use * 5 + "inputs")
        self.bad(13, 1, use * 4 + "use")

    def test_faces(self):
        # As of a face's text, its rows counted on.
        for rows, row, word in (
            ("hidden", 1, 2),
            ("hidden b a", 1, 3),
            ("hidden a b c", 1, 4),
            ("hiden a", 1, 1),
            ("", 1, 0),
            ("inputs 2", 1, 1),
            ("use c", 1, 1),
            ("new : a", 1, 1),
            ("hidden a\nnew a a a : a", 2, 4),
            ("hidden a\nnew 2 2 2 2 : a", 2, 5),
            ("hidden a\nnew 1 : a", 2, 2),
            ("hidden a\nnew : b", 2, 3),
            ("hidden a\nnew : a a", 2, 4),
            ("hidden a\nnew :", 2, 3),
            ("hidden a\nnew : a\nnew : a", 3, 1),
            ("hidden a\nnew : a\nadd : a", 3, 1),
            ("hidden a\nnew : a\nold  : a", 3, 0),
            ("hidden a\nnew : a\n old a", 3, 0),
            ("hidden a\n: new a", 2, 1),
            ("hidden a\nnew : a\nold:a :", 3, 1),
        ):
            self.bad(1 + row, word, f"use b\n{rows}\ninputs")
            self.bad(4 + row, word, f"use z\nhidden a\nnew : a\nuse b\n{rows}\ninputs")
        deeds = [f"{letter} : a" for letter in "bcdefghij"]
        self.assertEqual(len(read_program("\n".join(["use b", "hidden a", *deeds[:8], "inputs"]))[0][0][1][1]), 8)
        self.bad(11, 0, "\n".join(["use b", "hidden a", *deeds, "inputs"]))
        self.bad(11, 0, "\n".join(["use b", "hidden a", *deeds[:8], "", "inputs"]))

    def test_a_colon_is_a_word_by_itself(self):
        # No word of this row is ":": it isn't the face's, and there is no such row.
        self.bad(4, 1, "use b\nhidden a\nnew : a\nold:a\ninputs")
        self.bad(4, 1, "use b\nhidden a\nnew : a\nold a:\ninputs")

    def test_inputs(self):
        head = "use b\nhidden a\nnew : a\n"
        for row, inputs in (("inputs", ()), ("inputs 2", (2,)), ("inputs 9 2", (9, 2)), ("inputs 3 3 3", (3, 3, 3))):
            self.same_form(read_program(head + row)[1], inputs)
        for row, word in (
            ("input 2", 1),
            ("Inputs", 1),
            ("inputs 1", 2),
            ("inputs 10", 2),
            ("inputs 02", 2),
            ("inputs a", 2),
            ("inputs $0", 2),
            ("inputs 2 -2", 3),
            ("inputs 2 3 x", 4),
            ("inputs 2 3 4 5", 5),
            ("inputs 2 3 4 x", 5),
            ("inputs ", 0),
            ("inputs  2", 0),
            ("inputs\t2", 1),
            ("say 0", 1),
        ):
            self.bad(4, word, head + row)
            self.bad(4, word, head + row + "\nsay 0")
        # Behind the inputs no use stands any more.
        self.bad(5, 1, f"{SHORT}\nuse c\nhidden a\nnew : a")
        self.bad(5, 1, f"{SHORT}\ninputs")

    def test_rows_words(self):
        self.right_row("let a b c", let("a", "b", "c"))
        self.right_row("let abcdefgh b c d 8 $2", let("abcdefgh", "b", "c", name("d"), number(8), put(2)))
        self.right_row("pick a b 0 $0", pick("a", name("b"), number(0), put(0)))
        self.right_row("say let", say(name("let")))
        for row, word in (
            ("tell a", 1),
            ("Say a", 1),
            ("0", 1),
            ("let", 2),
            ("let A b c", 2),
            ("let 0 b c", 2),
            ("let abcdefghi b c", 2),
            ("let a", 3),
            ("let a $0 c", 3),
            ("let a b", 4),
            ("let a b 2", 4),
            ("let a b C d", 4),
            ("let a b c D", 5),
            ("let a b c 9", 5),
            ("let a b c 10", 5),
            ("let a b c 00", 5),
            ("let a b c $", 5),
            ("let a b c $3", 5),
            ("let a b c $00", 5),
            ("let a b c $$0", 5),
            ("let a b c -1", 5),
            ("let a b c d :", 6),
            ("let a b c d e 9", 7),
            ("let a b c d e f g", 8),
            ("let a b c d e f 9", 8),
            ("pick", 2),
            ("pick 0 a a a", 2),
            ("pick a", 3),
            ("pick a b", 4),
            ("pick a b c", 5),
            ("pick a B c d", 3),
            ("pick a b 9 d", 4),
            ("pick a b c $3", 5),
            ("pick a b c d e", 6),
            ("say", 2),
            ("say 9", 2),
            ("say $", 2),
            ("say $a", 2),
            ("say a b", 3),
            ("say 0 0", 3),
            ("", 0),
            (" say 0", 0),
            ("say 0 ", 0),
            ("say  0", 0),
            ("use a", 1),
            ("inputs", 1),
            ("new : a", 1),
        ):
            self.bad_row(word, row)

    def test_a_thirty_first_row(self):
        rows = "\nsay 0" * 30
        self.assertEqual(len(read_program(HEAD + rows)[2]), 30)
        self.bad(44, 1, HEAD + rows + "\nsay 0")
        self.bad(44, 1, HEAD + rows + "\n??")
        self.bad(44, 0, HEAD + rows + "\n")
        self.bad(44, 0, HEAD + rows + "\nsay  0")
        self.bad(43, 2, HEAD + "\nsay 0" * 29 + "\nsay ?\nsay 0\nsay 0")

    def test_as_the_document_says(self):
        rng = random.Random(65)
        met = {"read": 0, "refused": 0}
        for step in range(1500):
            text = program_text(chance_program(rng, 8))
            for again in range(rng.randrange(4)):
                text = spoilt_text(rng, text)
            try:
                due = PlainReader(text).read()
            except WontStand as place:
                met["refused"] += 1
                self.bad(*place.args, text)
            else:
                met["read"] += 1
                self.same_form(read_program(text), due)
        self.assertGreater(min(met.values()), 300)


if __name__ == "__main__":
    unittest.main()
