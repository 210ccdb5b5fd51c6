import random
import unittest

from sameface.doing import done
from sameface.errors import BadFace, BadMaking, BadUser
from sameface.facetext import read_face
from sameface.makingtext import read_making
from sameface.running import outcome
from tests.helpers import FACE, MAKING, ODD_THINGS, FieldsCase, chance_face, chance_making, chance_user, deep_thing

NEW = ("new", ())
KEY = ("key", ())

# A box is a count below 9; "add" refuses from 4 on, "bad" always.
BOX = read_face("hidden box\nadd box 3 : box\nbad : box\nbare : 4\nmany box : 9\nnew : box\nsum box box : box")
BOX_MAKING = read_making(
    BOX,
    "shape box 9\nadd when under 3 in 0 0 refuse give plus in 0 0 in 1 0\nbad refuse\nbare give 7\n"
    "many give in 0 0\nnew give 0\nsum give plus in 0 0 in 1 0",
)


class OutcomeTest(FieldsCase):
    def told(self, user, thing):
        self.same_form(outcome(BOX, BOX_MAKING, user), thing)

    def test_one_row(self):
        self.told((NEW,), (0,))
        self.told((("bare", ()),), 3)
        self.told((("bad", ()),), None)

    def test_the_last_row_counts(self):
        user = (NEW, ("add", (0, 2)), ("add", (1, 1)), ("many", (2,)), ("sum", (1, 2)), ("many", (4,)), ("many", (0,)))
        for many, thing in enumerate(((0,), (2,), (3,), 3, (5,), 5, 0), start=1):
            self.told(user[:many], thing)

    def test_rows_numbers_and_numbers(self):
        # What is handed for a plain kind is no row's number.
        self.told((NEW, ("add", (0, 1)), ("add", (1, 0)), ("add", (1, 1)), ("sum", (3, 1))), (3,))

    def test_brought_to_the_rest(self):
        user = [NEW, ("add", (0, 2))] + [("sum", (row, row)) for row in range(1, 5)]
        self.told(tuple(user), (32 % 9,))

    def test_two_hundred_rows(self):
        rows = [NEW, ("add", (0, 1))] + [("sum", (row, 1)) for row in range(1, 198)]
        self.told((*rows, ("many", (198,))), 198 % 9)
        self.told((*rows, ("sum", (198, 1))), (199 % 9,))

    def test_refused(self):
        add = ("add", (2, 0))
        four = (NEW, ("add", (0, 2)), ("add", (1, 2)))
        self.told(four, (4,))
        self.told((*four, add), None)
        self.told((*four, add, NEW), None)
        self.told((*four, add, ("many", (3,)), ("bare", ())), None)
        self.told((*four, add) + (NEW,) * 196, None)
        self.told((("bad", ()), ("many", (0,)), NEW), None)
        self.told((NEW, ("bad", ()), NEW), None)
        self.told((NEW,) * 199 + (("bad", ()),), None)

    def test_two_hidden_kinds(self):
        user = (NEW, KEY, ("add", (0, 1)), ("both", (0, 2, 0)), ("open", (3, 1)))
        for many, thing in enumerate(((0, 0), (1,), (1, 2), (1, 2), 2), start=1):
            self.same_form(outcome(FACE, MAKING, user[:many]), thing)

    def test_each_row_is_a_deed_done(self):
        rng = random.Random(22)
        for step in range(150):
            face = chance_face(rng)
            making = chance_making(rng, face)
            user = chance_user(rng, face, 12)
            if user is None:
                continue
            given = []
            takes = {deed[0]: deed[1] for deed in face[1]}
            for name, handed in user:
                things = [given[n] if kind in face[0] else n for kind, n in zip(takes[name], handed)]
                given.append(done(face, making, name, tuple(things)))
                if given[-1] is None:
                    break
            self.same_form(outcome(face, making, user), given[-1])


class RefusedTest(FieldsCase):
    def test_no_face_then_no_making_then_no_user(self):
        nothing = {"part": None, "number": None}
        for thing in (*ODD_THINGS, 1, "ab", (), deep_thing(50000)):
            self.refuses(BadFace, nothing, outcome, thing, thing, thing)
            self.refuses(BadFace, nothing, outcome, thing, MAKING, (NEW,))
            self.refuses(BadMaking, nothing, outcome, FACE, thing, thing)
            self.refuses(BadMaking, nothing, outcome, FACE, thing, (NEW,))
        for thing in (*ODD_THINGS, 1, "ab", ()):
            self.refuses(BadUser, {"row": None, "place": None}, outcome, FACE, MAKING, thing)
        self.refuses(BadUser, {"row": 0, "place": None}, outcome, FACE, MAKING, deep_thing(50000))
        self.refuses(BadMaking, {"part": "bodies", "number": 4}, outcome, FACE, (MAKING[0], (*MAKING[1][:4], 1)), None)

    def test_no_user(self):
        users = (
            ((NEW,) * 201, None, None),
            ([NEW], None, None),
            ((NEW, None), 1, None),
            ((NEW, ("none", ())), 1, None),
            ((NEW, ("add", (0,))), 1, None),
            ((NEW, ("add", (1, 0))), 1, 0),
            ((NEW, ("add", (0, 3))), 1, 1),
            ((NEW, ("add", (True, 0))), 1, 0),
        )
        for user, row, place in users:
            self.refuses(BadUser, {"row": row, "place": place}, outcome, FACE, MAKING, user)

    def test_no_user_behind_a_refused_row(self):
        self.refuses(BadUser, {"row": 1, "place": None}, outcome, BOX, BOX_MAKING, (("bad", ()), ("none", ())))


if __name__ == "__main__":
    unittest.main()
