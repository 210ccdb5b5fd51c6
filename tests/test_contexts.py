import random
import unittest

from sameface.contexts import first_context, is_telling
from sameface.errors import BadFace, BadMaking, BadSteps, OutOfPlace
from sameface.facetext import read_face
from sameface.makingtext import read_making
from tests.helpers import FACE, MAKING, ODD_THINGS, FieldsCase, Plainly, chance_face, chance_making, deep_thing
from tests.test_related import BOX, MARKED, WHOLE

# "down" is refused at 0 alone; "same" tells which of two are one.
STAIRS = read_face("hidden a\ndown a : a\nnew 5 : a\nround a : a")
STAIRS_MAKING = read_making(
    STAIRS, "shape a 5\ndown when in 0 0 give less in 0 0 1 refuse\nnew give in 0 0\nround give in 0 0"
)

# From a to b, and back.
TURNS = read_face("hidden a b\nask b 3 : 4\nback b : a\nmake 4 : a\nnew : b\nturn a : b")
TURNS_MAKING = read_making(
    TURNS,
    "shape a 4\nshape b 4\nask give if same in 1 0 2 under in 0 0 2 0\nback give in 0 0\nmake give in 0 0\n"
    "new give 3\nturn give plus 1 in 0 0",
)

DOWN = ("down", 0, ())
ROUND = ("round", 0, ())


class FirstContextTest(FieldsCase):
    def first(self, face, making, kind, one, other, steps):
        for two in ((one, other), (other, one)):
            self.same_form(first_context(face, making, kind, *two), steps)
            if steps is not None:
                self.assertIs(is_telling(face, making, kind, *two, steps), True)

    def test_one_step(self):
        for one in range(4):
            for other in range(one):
                self.first(BOX, WHOLE, "box", (one,), (other,), (("see", 0, ()),))

    def test_alike_ones(self):
        self.first(BOX, MARKED, "box", (4, 0), (0, 1), None)
        self.first(BOX, MARKED, "box", (4, 0), (4, 0), None)
        self.first(BOX, WHOLE, "box", (1,), (1,), None)

    def test_some_steps(self):
        for less in range(4):
            for more in range(less + 1, 5):
                self.first(STAIRS, STAIRS_MAKING, "a", (less,), (more,), (DOWN,) * (less + 1))

    def test_from_kind_to_kind(self):
        # b is seen to be under 2 where 2 is handed beside it; a is turned into one more.
        self.first(TURNS, TURNS_MAKING, "b", (1,), (2,), (("ask", 0, (2,)),))
        self.first(TURNS, TURNS_MAKING, "a", (0,), (1,), (("turn", 0, ()), ("ask", 0, (2,))))
        self.first(TURNS, TURNS_MAKING, "b", (2,), (3,), (("back", 0, ()), ("turn", 0, ()), ("ask", 0, (2,))))
        steps = (("turn", 0, ()), ("back", 0, ()), ("turn", 0, ()), ("ask", 0, (2,)))
        self.first(TURNS, TURNS_MAKING, "a", (1,), (2,), steps)

    def test_the_fewest_go_ahead_of_the_least(self):
        face = read_face("hidden a\nby a : a\nnew 2 : a\nsee a : 2")
        making = read_making(face, "shape a 2\nby give in 0 0\nnew give in 0 0\nsee give in 0 0")
        self.first(face, making, "a", (0,), (1,), (("see", 0, ()),))

    def test_the_least_of_the_fewest(self):
        # Of names, then of places, then of what is handed beside: 1 and 2 are told apart beside 3 alone.
        face = read_face("hidden a\nmix a 2 a : 3\nnew 4 : a\nold a : 3")
        text = "shape a 4\nmix give {}\nnew give less 3 in 0 0\nold give in 0 0"
        making = read_making(face, text.format("times same in 2 0 3 in 0 0"))
        # 3 is number 0; with 2 and 3 at hand 0 and 1 do, too.
        self.first(face, making, "a", (1,), (2,), (("mix", 0, (0, 0)),))
        self.first(face, making, "a", (0,), (3,), (("mix", 2, (1, 0)),))
        making = read_making(face, text.format("times times in 1 0 same in 0 0 2 in 2 0"))
        self.first(face, making, "a", (0,), (1,), (("mix", 2, (1, 1)),))
        self.first(face, making, "a", (1,), (2,), (("mix", 0, (1, 1)),))
        making = read_making(face, text.format("0"))
        self.first(face, making, "a", (1,), (2,), (("old", 0, ()),))

    def test_refused_with_just_one(self):
        face = read_face("hidden a b\nnew 3 : a\nnow 2 : b\ntry b a 3 : b")
        making = read_making(
            face,
            "shape a 3\nshape b 2\nnew give in 0 0\nnow give in 0 0\n"
            "try when same plus in 1 0 in 2 0 4 refuse give 0",
        )
        self.first(face, making, "a", (1,), (2,), (("try", 1, (0, 2)),))
        self.first(face, making, "a", (0,), (1,), None)
        self.first(face, making, "b", (0,), (1,), None)

    def test_as_the_document_finds_it(self):
        rng = random.Random(43)
        lengths = set()
        for step in range(150):
            face = chance_face(rng)
            making = chance_making(rng, face)
            plainly = Plainly(face, making)
            fewest = plainly.fewest()
            for kind in face[0]:
                for one in plainly.worths(kind):
                    for other in plainly.worths(kind):
                        many = fewest.get((kind, one, other))
                        steps = None
                        if many is not None:
                            lengths.add(many)
                            contexts = plainly.contexts(kind, many)
                            steps = next(steps for steps in contexts if plainly.tells(steps, one, other))
                        self.same_form(first_context(face, making, kind, one, other), steps)
        self.assertLessEqual({1, 2}, lengths)


class TellingTest(FieldsCase):
    def tells(self, told, one, other, *steps, face=STAIRS, making=STAIRS_MAKING, kind="a"):
        for two in ((one, other), (other, one)):
            self.assertIs(is_telling(face, making, kind, *two, steps), told, steps)

    def test_refused_with_just_one(self):
        self.tells(True, (0,), (1,), DOWN)
        self.tells(True, (0,), (1,), ROUND, DOWN, DOWN, ROUND)
        self.tells(True, (1,), (3,), DOWN, ROUND, DOWN)
        self.tells(False, (1,), (3,), DOWN, ROUND)
        self.tells(False, (0,), (0,), DOWN)

    def test_refused_with_both(self):
        # The second step is refused with both at 1 and 1: nothing behind it is asked.
        face = read_face("hidden a\nall a : a\nnew 3 : a\nsee a : 3")
        making = read_making(face, "shape a 3\nall when under in 0 0 2 refuse give 0\nnew give in 0 0\nsee give in 0 0")
        see = ("see", 0, ())
        self.tells(True, (0,), (1,), see, face=face, making=making)
        self.tells(False, (0,), (1,), ("all", 0, ()), see, face=face, making=making)
        self.tells(True, (1,), (2,), ("all", 0, ()), see, face=face, making=making)
        # Steps behind are looked at all the same, whether they are steps.
        call = (is_telling, face, making, "a", (0,), (1,), (("all", 0, ()), ("none", 0, ())))
        self.refuses(BadSteps, {"number": 1}, *call)

    def test_two_numbers_at_the_last(self):
        self.tells(True, (1,), (2,), ("ask", 0, (2,)), face=TURNS, making=TURNS_MAKING, kind="b")
        self.tells(False, (1,), (2,), ("ask", 0, (1,)), face=TURNS, making=TURNS_MAKING, kind="b")
        self.tells(False, (0,), (1,), ("ask", 0, (2,)), face=TURNS, making=TURNS_MAKING, kind="b")

    def test_worths_at_the_last(self):
        self.tells(False, (1,), (4,), ROUND)
        self.tells(False, (1,), (2,), ("back", 0, ()), face=TURNS, making=TURNS_MAKING, kind="b")

    def test_not_the_first_context(self):
        self.tells(True, (0,), (1,), ROUND, ROUND, DOWN)
        self.tells(True, (3,), (1,), ROUND, DOWN, DOWN, DOWN)

    def test_two_hundred_steps(self):
        self.tells(True, (0,), (1,), *(ROUND,) * 199, DOWN)
        self.tells(False, (0,), (1,), *(ROUND,) * 200)

    def test_as_gone_through_plainly(self):
        rng = random.Random(41)
        for step in range(100):
            face = chance_face(rng)
            making = chance_making(rng, face)
            plainly = Plainly(face, making)
            for kind in face[0]:
                steps = []
                at = kind
                while at in face[0] and len(steps) < 4:
                    ahead = list(plainly.steps_for(at))
                    if not ahead:
                        break
                    one_step, at = rng.choice(ahead)
                    steps.append(one_step)
                worths = plainly.worths(kind)
                for one in worths if steps else ():
                    for other in worths:
                        told = plainly.tells(steps, one, other)
                        self.assertIs(is_telling(face, making, kind, one, other, tuple(steps)), told)


ASK = ("ask", 0, (2,))
BACK = ("back", 0, ())
TURN = ("turn", 0, ())
PAIRS = read_face("hidden a b\nall a 3 b : a\nmix a a : b\nna 2 : a\nnb : b\nsee 2 : 2")
PAIRS_MAKING = read_making(
    PAIRS, "shape a 4\nshape b 4\nall give in 0 0\nmix give 0\nna give in 0 0\nnb give 0\nsee give 0"
)


class BadStepsTest(FieldsCase):
    def bad(self, number, steps, face=TURNS, making=TURNS_MAKING, kind="b", worth=(3,)):
        self.refuses(BadSteps, {"number": number}, is_telling, face, making, kind, worth, worth, steps)

    def test_no_tuple_of_so_many(self):
        for steps in (*ODD_THINGS, 1, "ab", (), [ASK], (BACK, TURN) * 100 + (BACK,), (None,) * 201):
            self.bad(None, steps)
        self.assertIs(is_telling(TURNS, TURNS_MAKING, "b", (3,), (3,), (BACK, TURN) * 100), False)

    def test_no_triple(self):
        for step in (*ODD_THINGS, 1, "ask", (), ("ask",), ("ask", 0), ("ask", 0, (2,), ()), list(ASK)):
            self.bad(0, (step,))
            self.bad(2, (BACK, TURN, step))
            self.bad(1, (BACK, step, None))
        self.bad(0, (deep_thing(50000),))

    def test_no_deeds_name(self):
        for name in (*ODD_THINGS, 1, "", "asks", "b", ("ask",), deep_thing(50000)):
            self.bad(0, ((name, 0, (2,)),))
            self.bad(2, (BACK, TURN, (name, 0, (2,)), None))

    def test_no_place(self):
        for place in (*ODD_THINGS, -1, 1, 2, "0", (0,), deep_thing(50000)):
            self.bad(0, (("ask", place, (2,)),))
            self.bad(0, (("back", place, ()),))
            self.bad(0, (("back", place, (0,)),))
        self.bad(0, (("make", 0, ()),), kind="a")
        self.bad(0, (("new", 0, ()),))

    def test_a_plain_kinds_place(self):
        for place, number in ((0, 0), (1, None), (2, 1)):
            step = ("all", place, (0, 0))
            if place == 1:
                self.bad(0, (step,), PAIRS, PAIRS_MAKING, "a", (0,))
                self.bad(0, (step,), PAIRS, PAIRS_MAKING, "b", (0,))
            else:
                kind = "ab"[number]
                told = is_telling(PAIRS, PAIRS_MAKING, kind, (0,), (0,), (step,))
                self.assertIs(told, False)
                self.bad(0, (step,), PAIRS, PAIRS_MAKING, "ba"[number], (0,))

    def test_others_too_few_too_many(self):
        for others in (*ODD_THINGS, 2, "2", (), (2, 2), [2], deep_thing(50000)):
            self.bad(0, (("ask", 0, others),))
            self.bad(2, (BACK, TURN, ("ask", 0, others)))
        self.bad(0, (("back", 0, (0,)),))

    def test_others_out_of_their_numbers(self):
        for other in (*ODD_THINGS, -1, 3, "2", (2,), deep_thing(50000)):
            self.bad(0, (("ask", 0, (other,)),))
        # Of a two worths are come to, of b one; there is 0, 1, 2 of 3.
        for others in ((2, 0), (-1, 0), (True, 0), ((0,), 0), ((0, 0), 0)):
            self.bad(0, (("all", 2, others[:1] + (0,)),), PAIRS, PAIRS_MAKING, "b", (0,))
        for others in ((3, 0), (-1, 0), (True, 0), (0, 1), (0, -1), (0, False), (0, None)):
            self.bad(0, (("all", 0, others),), PAIRS, PAIRS_MAKING, "a", (0,))
        for other in (2, True, None):
            for place in (0, 1):
                self.bad(0, (("mix", place, (other,)),), PAIRS, PAIRS_MAKING, "a", (0,))
        for steps in ((("all", 0, (2, 0)),), (("mix", 1, (1,)), ("all", 2, (1, 2)))):
            self.assertIs(is_telling(PAIRS, PAIRS_MAKING, "a", (0,), (1,), steps), False)

    def test_nothing_is_come_to(self):
        face = read_face("hidden a b\nmix a b : 2\nnew : a")
        making = read_making(face, "shape a 2\nshape b 2\nmix give 0\nnew give 0")
        self.bad(0, (("mix", 0, (0,)),), face, making, "a", (0,))

    def test_behind_a_plain_kind(self):
        # "ask" gives 4, which "make" takes.
        for step in (ASK, BACK, ("make", 0, ()), None, [], deep_thing(50000)):
            self.bad(1, (ASK, step))
            self.bad(3, (BACK, TURN, ASK, step, None))

    def test_another_kind_than_given_ahead(self):
        self.bad(0, (TURN,))
        self.bad(0, (ASK,), kind="a", worth=(0,))
        self.bad(1, (BACK, BACK))
        self.bad(1, (BACK, ASK))
        self.bad(2, (BACK, TURN, TURN))


class RefusedTest(FieldsCase):
    def test_no_face_then_no_making(self):
        nothing = {"part": None, "number": None}
        for thing in (*ODD_THINGS, 1, "ab", (), deep_thing(50000)):
            self.refuses(BadFace, nothing, first_context, thing, thing, thing, thing, thing)
            self.refuses(BadMaking, nothing, first_context, FACE, thing, thing, thing, thing)
            self.refuses(BadFace, nothing, is_telling, thing, thing, thing, thing, thing, thing)
            self.refuses(BadMaking, nothing, is_telling, FACE, thing, thing, thing, thing, thing)

    def test_no_hidden_kind(self):
        for kind in (*ODD_THINGS, "", "add", "bags", 0, 3, ("bag",), ["bag"], deep_thing(50000)):
            for worth in ((0, 0), None):
                self.refuses(OutOfPlace, {}, first_context, FACE, MAKING, kind, worth, worth)
                for steps in ((("add", 0, (0,)),), None):
                    self.refuses(OutOfPlace, {}, is_telling, FACE, MAKING, kind, worth, worth, steps)

    def test_no_come_to_worth(self):
        others = ((), (0,), (0, 0, 0), (4, 0), (0, 3), (-1, 0), (True, 0), (0, False), [0, 0], ("0", 0), (None, 0))
        for worth in (*ODD_THINGS, *others, 0, "00", ((0,), 0), ([], 0), deep_thing(50000)):
            for one, other in ((worth, (0, 0)), ((0, 0), worth), (worth, worth)):
                self.refuses(OutOfPlace, {}, first_context, FACE, MAKING, "bag", one, other)
                for steps in ((("add", 0, (0,)),), None, ()):
                    self.refuses(OutOfPlace, {}, is_telling, FACE, MAKING, "bag", one, other, steps)
        # (0,) is a worth of a key that isn't come to.
        self.refuses(OutOfPlace, {}, first_context, FACE, MAKING, "key", (1,), (0,))
        self.refuses(OutOfPlace, {}, is_telling, FACE, MAKING, "key", (0,), (1,), None)


if __name__ == "__main__":
    unittest.main()
