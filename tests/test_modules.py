import random
import unittest

from sameface.doing import done
from sameface.errors import BadFace, BadMaking, BadModule, OutOfPlace
from sameface.facetext import read_face
from sameface.makings import is_making
from sameface.makingtext import read_making
from sameface.modules import done_over, flat_over, is_module, need_module
from tests.helpers import FACE, MAKING, ODD_THINGS, FieldsCase, chance_face, chance_making, deep_thing, spoilt
from tests.modulehelp import PlainOver, chance_module, flat, plain_is_module

# A cell keeps a number below 5, a tag one below 3; "pay" refuses of nothing.
LOWER = read_face(
    "hidden cell tag\nget cell : 5\nmake : cell\nmark 3 : tag\nname tag : 3\npay cell : cell\nput cell 5 : cell"
)
LOWER_MAKING = read_making(
    LOWER,
    "shape cell 5\nshape tag 3 2\nget give in 0 0\nmake give 1\nmark give in 0 0 , 1\nname give in 0 0\n"
    "pay when in 0 0 give less in 0 0 1 refuse\nput give plus in 0 0 in 1 0",
)
# "box" has a cell, a number below 4 and a tag; "coin" a number below 6.
UPPER = read_face(
    "hidden box coin\nboth box coin 2 : box\ncount coin : 6\nnew : box\nsee box : 9\ntoss 6 : coin"
)
BOX = (("of", "cell"), 4, ("of", "tag"))
NUMBER = ("number", 1)
REFUSE = ("refuse",)


def make(body):
    """A body behind a call of "make", which brings a cell."""
    return ("call", "make", (), body)


def mark(number, body):
    """A body behind a call of "mark", which brings a tag."""
    return ("call", "mark", (number,), body)


def get(cell, body):
    """A body behind a call of "get", which brings a number."""
    return ("call", "get", (cell,), body)


BODIES = (
    # What is in the coin is put into the cell; the tag is new where it is asked for.
    (
        "call",
        "put",
        (("in", 0, 0), ("times", ("number", 2), ("in", 1, 0))),
        (
            "when",
            ("in", 2, 0),
            mark(("plus", ("in", 0, 1), ("number", 2)), ("give", (("got", 0), ("number", 5), ("got", 1)))),
            ("give", (("got", 0), ("in", 0, 1), ("in", 0, 2))),
        ),
    ),
    ("give", (("in", 0, 0),)),
    make(mark(("number", 0), ("give", (("got", 0), ("number", 0), ("got", 1))))),
    (
        "call",
        "pay",
        (("in", 0, 0),),
        get(
            ("got", 0),
            (
                "call",
                "name",
                (("in", 0, 2),),
                ("give", (("plus", ("times", ("got", 1), ("number", 3)), ("got", 2)),)),
            ),
        ),
    ),
    ("give", (("in", 0, 0),)),
)
MODULE = ((BOX, (6,)), BODIES)


def with_body(number, body):
    """The module with another body."""
    return (MODULE[0], BODIES[:number] + (body,) + BODIES[number + 1 :])


def sum_of(many):
    """An E of so many parts, an odd number, as flat as can be."""
    if many == 1:
        return NUMBER
    half = (many - 1) // 2
    half -= 1 - half % 2
    return ("plus", sum_of(half), sum_of(many - 1 - half))


class ModuleTest(FieldsCase):
    def right(self, thing, upper=UPPER, lower=LOWER):
        self.assertIs(is_module(upper, lower, thing), True)
        self.assertIsNone(need_module(upper, lower, thing))

    def bad(self, part, number, thing, upper=UPPER, lower=LOWER):
        self.assertIs(is_module(upper, lower, thing), False)
        self.refuses(BadModule, {"part": part, "number": number}, need_module, upper, lower, thing)

    def right_body(self, number, body):
        self.right(with_body(number, body))

    def bad_body(self, number, body):
        self.bad("bodies", number, with_body(number, body))

    def test_right(self):
        self.right(MODULE)

    def test_no_pair(self):
        for thing in (*ODD_THINGS, 1, "ab", (), MODULE[:1], (*MODULE, ()), list(MODULE), deep_thing(50000)):
            self.bad(None, None, thing)

    def test_no_tuples_of_as_many(self):
        for thing in (*ODD_THINGS, 1, "ab", (), (BOX,), (BOX, (6,), (2,)), [BOX, (6,)], deep_thing(50000)):
            self.bad("shapes", None, (thing, None))
        for thing in (*ODD_THINGS, 1, "abcde", (), BODIES[:4], (*BODIES, REFUSE), list(BODIES)):
            self.bad("bodies", None, ((None, None), thing))

    def test_shapes(self):
        face = read_face("hidden a\nnew : a")
        cell, tag = ("of", "cell"), ("of", "tag")
        for shape in ((2,), (9,), (4, 4), (2, 2, 4), (cell,), (tag, cell, tag), (8, tag, 2), (9, cell)):
            self.right(((shape,), (REFUSE,)), face)
        for shape in (
            *ODD_THINGS,
            5,
            "cell",
            (),
            (2, 2, 2, 2),
            (("of", "cell"),) * 4,
            (1,),
            (10,),
            (-2,),
            (True,),
            (2.0,),
            ("2",),
            (2, 9),
            (9, ("of", "cell"), 2),
            (3, 6),
            (4, 5),
            [2],
            (("of",),),
            (("of", "cell", "tag"),),
            (["of", "cell"],),
            (("of", "none"),),
            (("of", "a"),),
            (("of", 2),),
            (("of", None),),
            (("of", ["cell"]),),
            (("in", "cell"),),
            ("of", "cell"),
            ("cell",),
            (2, None),
            (deep_thing(50000),),
        ):
            self.bad("shapes", 0, ((shape,), (REFUSE,)), face)
        self.bad("shapes", 1, ((BOX, (17,)), BODIES))
        self.bad("shapes", 0, ((None, None), (None,) * 5))
        self.bad("shapes", 1, ((BOX, None), (None,) * 5))

    def test_bodies_in_order(self):
        for number in range(5):
            self.bad("bodies", number, (MODULE[0], BODIES[:number] + (None,) * (5 - number)))
            others = (("give",), ("refuse", 1), ["refuse"], ("none",), (None,), deep_thing(50000))
            for thing in (*ODD_THINGS, 0, "refuse", (), *others):
                self.bad_body(number, thing)

    def test_where_an_e_is_wanted(self):
        # "see" is handed a box: its field 1 is a number, the others are worths.
        for told in (NUMBER, ("in", 0, 1)):
            self.right_body(3, ("give", (told,)))
            self.right_body(3, ("when", told, REFUSE, REFUSE))
            self.right_body(3, ("give", (("plus", NUMBER, told),)))
            self.right_body(3, ("give", (("if", told, told, told),)))
            self.right_body(3, ("call", "put", (("in", 0, 0), told), REFUSE))
        for told in (
            ("in", 0, 0),
            ("in", 0, 2),
            ("in", 0, 3),
            ("in", 1, 0),
            ("in", 0, -1),
            ("in", 0, True),
            ("in", False, 1),
            ("in", 0),
            ("in", 0, 1, 0),
            ("got", 0),
            ("of", "cell"),
            ["in", 0, 1],
            None,
            (),
            1,
        ):
            self.bad_body(3, ("give", (told,)))
            self.bad_body(3, ("when", told, REFUSE, REFUSE))
            self.bad_body(3, ("give", (("plus", NUMBER, told),)))
            self.bad_body(3, ("give", (("times", told, NUMBER),)))
            self.bad_body(3, ("give", (("rest", told, 2),)))
            for place in range(3):
                self.bad_body(3, ("give", (("if", *[told if at == place else NUMBER for at in range(3)]),)))
            self.bad_body(3, ("call", "put", (("in", 0, 0), told), REFUSE))
        # A number that is handed in has the field 0 alone.
        self.right_body(0, ("when", ("in", 2, 0), REFUSE, REFUSE))
        self.bad_body(0, ("when", ("in", 2, 1), REFUSE, REFUSE))
        self.right_body(0, ("when", ("in", 1, 0), REFUSE, REFUSE))

    def test_es_by_their_form(self):
        one = ("in", 0, 0)
        for told in (
            ("number", 0),
            ("number", 99),
            ("rest", one, 2),
            ("rest", one, 99),
            ("if", one, one, one),
            *[(word, one, one) for word in ("plus", "less", "times", "same", "under")],
        ):
            self.right_body(4, ("give", (told,)))
            self.right_body(4, ("when", told, REFUSE, REFUSE))
            self.right_body(4, ("give", (("plus", told, told),)))
        for told in (
            ("number",),
            ("number", -1),
            ("number", 100),
            ("number", True),
            ("number", None),
            ("number", 1, 1),
            ("numbers", 1),
            ("rest", one),
            ("rest", one, 1),
            ("rest", one, 100),
            ("rest", one, True),
            ("rest", one, None),
            ("rest", one, one),
            ("rest", 2, one),
            ("rest", one, 2, 2),
            ("rests", one, 2),
            ("plus", one),
            ("plus", one, one, one),
            ("plus", one, 2),
            ("plus",),
            ("pluss", one, one),
            ("if", one, one),
            ("if", one, one, one, one),
            ("iff", one, one, one),
            ("when", one, one, one),
            (None, one, one),
            (["plus"], one, one),
            ("in", 0, 0, 0),
            ("in", 0),
            ("got", 0),
            ("of", "cell"),
            [one],
            {},
        ):
            self.bad_body(4, ("give", (told,)))
            self.bad_body(4, ("when", told, REFUSE, REFUSE))
            self.bad_body(4, ("give", (("plus", told, one),)))
            self.bad_body(4, ("give", (("if", one, one, told),)))

    def test_where_a_w_is_wanted(self):
        self.right_body(0, ("give", (("in", 0, 0), NUMBER, ("in", 0, 2))))
        self.right_body(0, get(("in", 0, 0), REFUSE))
        self.right_body(0, ("call", "name", (("in", 0, 2),), REFUSE))
        for told in (
            NUMBER,
            ("in", 0, 1),
            ("in", 0, 2),
            ("in", 1, 0),
            ("in", 2, 0),
            ("in", 0, 3),
            ("in", 3, 0),
            ("in", False, 0),
            ("in", 0, False),
            ("got", 0),
            ("plus", ("in", 0, 0), NUMBER),
            ("if", NUMBER, ("in", 0, 0), ("in", 0, 0)),
            ("rest", ("in", 0, 0), 2),
            ["in", 0, 0],
            None,
            (),
            (None,),
            deep_thing(50000),
        ):
            self.bad_body(0, ("give", (told, NUMBER, ("in", 0, 2))))
            self.bad_body(0, get(told, REFUSE))
        self.bad_body(0, ("give", (("in", 0, 2), NUMBER, ("in", 0, 0))))
        self.bad_body(0, ("call", "name", (("in", 0, 0),), REFUSE))

    def test_what_calls_bring(self):
        tag = ("in", 0, 2)
        # A worth, a number.
        self.right_body(0, make(("give", (("got", 0), NUMBER, tag))))
        self.right_body(0, make(get(("got", 0), REFUSE)))
        self.right_body(0, get(("in", 0, 0), ("when", ("got", 0), REFUSE, REFUSE)))
        self.bad_body(0, make(("when", ("got", 0), REFUSE, REFUSE)))
        self.bad_body(0, get(("in", 0, 0), ("give", (("got", 0), NUMBER, tag))))
        self.bad_body(0, mark(NUMBER, ("give", (("got", 0), NUMBER, tag))))
        self.right_body(0, mark(NUMBER, ("give", (("in", 0, 0), NUMBER, ("got", 0)))))
        for told in (("got",), ("gott", 0), ("in", 0), ("got", 0, 0), (None, 0), ["got", 0]):
            self.bad_body(0, make(get(told, REFUSE)))
            self.bad_body(0, make(("give", (told, NUMBER, tag))))
        # Not in its own ARGS, nor behind it, beside it.
        self.bad_body(0, get(("got", 0), REFUSE))
        self.bad_body(0, mark(("got", 0), REFUSE))
        self.bad_body(0, ("when", NUMBER, make(REFUSE), get(("got", 0), REFUSE)))
        self.right_body(0, ("when", NUMBER, make(get(("got", 0), REFUSE)), make(get(("got", 0), REFUSE))))

    def test_calls_within_calls(self):
        def within(told):
            """ "make" around "mark" around "get": a cell, a tag, a number."""
            return make(mark(NUMBER, get(("got", 0), told)))

        self.right_body(0, within(("give", (("got", 0), ("got", 2), ("got", 1)))))
        wrong = [(1, 2, 1), (2, 2, 1), (0, 0, 1), (0, 1, 1), (0, 2, 0), (0, 2, 2), (3, 2, 1), (0, 3, 1), (0, 2, 3)]
        wrong += [(False, 2, 1), (0, 2, True), (-3, 2, 1), (None, 2, 1), ("0", 2, 1), ((0,), 2, 1)]
        for calls in wrong:
            self.bad_body(0, within(("give", tuple(("got", call) for call in calls))))
        self.right_body(0, within(("when", ("got", 2), make(get(("got", 3), REFUSE)), get(("got", 0), REFUSE))))
        self.bad_body(0, within(("when", ("got", 2), make(REFUSE), get(("got", 3), REFUSE))))
        self.bad_body(0, within(("give", (("got",), ("got", 2), ("got", 1)))))
        self.bad_body(0, within(("give", (("got", 0, 0), ("got", 2), ("got", 1)))))

    def test_calls(self):
        for thing in (
            ("call",),
            ("call", "make"),
            ("call", "make", ()),
            ("call", "make", (), REFUSE, REFUSE),
            ("call", "none", (), REFUSE),
            ("call", "new", (), REFUSE),
            ("call", "cell", (), REFUSE),
            ("call", None, (), REFUSE),
            ("call", ["make"], (), REFUSE),
            ("call", "make", (NUMBER,), REFUSE),
            ("call", "make", [], REFUSE),
            ("call", "make", None, REFUSE),
            ("call", "make", (), None),
            ("call", "make", (), NUMBER),
            ("call", "mark", (), REFUSE),
            ("call", "mark", NUMBER, REFUSE),
            ("call", "mark", (NUMBER, NUMBER), REFUSE),
            ("call", "put", (("in", 0, 0),), REFUSE),
            ("call", "put", (NUMBER, ("in", 0, 0)), REFUSE),
        ):
            self.bad_body(0, thing)
            self.bad_body(0, ("when", NUMBER, thing, REFUSE))
            self.bad_body(0, make(thing))
        # A call is a body, none of an E.
        self.bad_body(4, ("give", (make(REFUSE),)))

    def test_parts(self):
        # "toss" gives a number: a give, an E.
        for many in (55, 57, 59):
            self.right_body(4, ("give", (sum_of(many),)))
        self.bad_body(4, ("give", (sum_of(61),)))
        # A when, the E, two bodies: with an E of 57 sixty, of 59 one too many.
        self.right_body(4, ("when", sum_of(57), REFUSE, REFUSE))
        self.bad_body(4, ("when", sum_of(59), REFUSE, REFUSE))
        # Ws count: a call, its W, then a body; in a give two of them and an E.
        self.right_body(0, ("call", "put", (("in", 0, 0), sum_of(57)), REFUSE))
        self.bad_body(0, ("call", "put", (("in", 0, 0), sum_of(59)), REFUSE))
        self.right_body(0, ("give", (("in", 0, 0), sum_of(57), ("in", 0, 2))))
        self.bad_body(0, ("give", (("in", 0, 0), sum_of(59), ("in", 0, 2))))

    def test_just_sixty_parts_end_in_a_w(self):
        # A call and its W, a give, an E of 55, two Ws.
        give = ("give", (("in", 0, 0), sum_of(55), ("in", 0, 2)))
        self.right_body(0, get(("in", 0, 0), give))
        self.right_body(0, mark(NUMBER, give))
        # One more: the last W is the sixty-first.
        self.bad_body(0, mark(("rest", NUMBER, 2), give))
        self.bad_body(0, ("call", "put", (("in", 0, 0), NUMBER), give))
        # In ARGS: a call, an E of 57, a body, and ahead of them a W.
        self.right_body(0, ("call", "put", (("in", 0, 0), sum_of(57)), REFUSE))

    def test_depth(self):
        def nested(many, body):
            for step in range(many):
                body = make(body)
            return body

        give = ("give", (("in", 0, 0), NUMBER, ("in", 0, 2)))
        self.right_body(0, nested(6, give))
        self.bad_body(0, nested(7, give))
        self.right_body(0, nested(7, REFUSE))
        self.bad_body(0, nested(8, REFUSE))
        self.right_body(0, nested(6, get(("in", 0, 0), REFUSE)))
        self.bad_body(0, nested(7, get(("in", 0, 0), REFUSE)))
        self.bad_body(0, nested(50000, REFUSE))
        deep = NUMBER
        for step in range(6):
            deep = ("rest", deep, 2)
        self.right_body(4, ("give", (deep,)))
        self.right_body(4, ("call", "mark", (deep,), REFUSE))
        self.bad_body(4, ("give", (("rest", deep, 2),)))
        self.bad_body(4, ("call", "mark", (("rest", deep, 2),), REFUSE))
        self.bad_body(4, make(("give", (deep,))))

    def test_a_making_is_a_module_over_whatever_face(self):
        rng = random.Random(70)
        for step in range(60):
            face = chance_face(rng)
            making = chance_making(rng, face)
            self.right(making, face, chance_face(rng))
        self.right(MAKING, FACE, LOWER)
        self.right(MAKING, FACE, FACE)
        module = ((BOX, (6,)), (REFUSE,) * 5)
        self.right(module)
        self.assertIs(is_making(UPPER, module), False)
        # Bounds beside worths.
        self.right((((9, ("of", "cell")), (6,)), (REFUSE,) * 5))
        self.bad("shapes", 0, (((9, ("of", "cell"), 2), (6,)), (REFUSE,) * 5))

    def test_no_faces(self):
        nothing = {"part": None, "number": None}
        for thing in (*ODD_THINGS, 1, "ab", (), deep_thing(50000)):
            for call in (is_module, need_module):
                self.refuses(BadFace, nothing, call, thing, thing, thing)
                self.refuses(BadFace, nothing, call, UPPER, thing, thing)
                self.refuses(BadFace, nothing, call, thing, LOWER, MODULE)
        upper_fault, lower_fault = (UPPER[0], ()), ((), LOWER[1])
        self.refuses(BadFace, {"part": "deeds", "number": None}, need_module, upper_fault, lower_fault, None)
        self.refuses(BadFace, {"part": "hidden", "number": None}, need_module, UPPER, lower_fault, None)

    def test_as_the_document_says(self):
        rng = random.Random(71)
        right = 0
        for step in range(400):
            upper, lower = chance_face(rng, 4), chance_face(rng, 4)
            module = chance_module(rng, upper, lower)
            self.right(module, upper, lower)
            for again in range(3):
                thing = spoilt(rng, module)
                fault = plain_is_module(upper, lower, thing)
                if fault is None:
                    right += 1
                    self.right(thing, upper, lower)
                else:
                    self.bad(*fault, thing, upper, lower)
        self.assertGreater(right, 100)


class DoneTest(FieldsCase):
    def does(self, told, name, *handed, module=MODULE):
        self.same_form(done_over(UPPER, LOWER, module, LOWER_MAKING, name, handed), told)

    def test_new(self):
        self.does(((1,), 0, (0, 1)), "new")

    def test_numbers_in_args_are_brought_to_rests(self):
        box = ((3,), 2, (2, 0))
        # 2 times the coin into a cell below 5: "put" takes a number below 5.
        for coin, cell in ((0, 3), (1, 0), (2, 2), (3, 4), (4, 1), (5, 3)):
            self.does(((cell,), 2, (2, 0)), "both", box, (coin,), 0)
        below = ("less", ("number", 0), ("in", 1, 0))
        less = ("call", "put", (("in", 0, 0), below), ("give", (("got", 0), NUMBER, ("in", 0, 2))))
        self.does(((2,), 1, (2, 0)), "both", box, (1,), 0, module=with_body(0, less))

    def test_fields_are_brought_to_rests(self):
        # 5 by 4; the mark's number by 3: 2 and 2 are 4.
        self.does(((0,), 1, (1, 1)), "both", ((3,), 2, (2, 0)), (1,), 1)
        self.does((5,), "toss", 5)
        self.does((5,), "toss", 0, module=with_body(4, ("give", (("less", ("in", 0, 0), NUMBER),))))
        self.does(3, "count", (3,))

    def test_refused_below(self):
        self.does(None, "see", ((0,), 2, (2, 0)))
        self.does(2, "see", ((1,), 2, (2, 0)))
        self.does(2, "see", ((4,), 2, (2, 0)))
        self.does(6 + 2, "see", ((3,), 2, (2, 1)))
        self.does(None, "see", ((3,), 2, (2, 1)), module=with_body(3, ("call", "pay", (("in", 0, 0),), REFUSE)))
        # A call whose worth isn't used refuses all the same.
        body = ("call", "pay", (("in", 0, 0),), ("give", (("number", 7),)))
        self.does(7, "see", ((1,), 0, (0, 0)), module=with_body(3, body))
        self.does(None, "see", ((0,), 0, (0, 0)), module=with_body(3, body))

    def test_only_the_body_that_is_chosen_is_asked(self):
        paid = ("call", "pay", (("in", 0, 0),), ("give", (NUMBER,)))
        body = ("when", ("in", 0, 1), paid, ("give", (("number", 2),)))
        for box, told in ((((0,), 0, (0, 0)), 2), (((0,), 1, (0, 0)), None), (((1,), 1, (0, 0)), 1)):
            self.does(told, "see", box, module=with_body(3, body))

    def test_got_of_each_call(self):
        give = ("give", (("plus", ("times", ("got", 1), ("number", 10)), ("got", 3)),))
        calls = make(get(("in", 0, 0), ("call", "put", (("got", 0), ("got", 1)), get(("got", 2), give))))
        # 3 of the cell, put into one of 1: 4; of 34 by 9 there are 7 left.
        self.does(7, "see", ((3,), 0, (0, 0)), module=with_body(3, calls))

    def test_refusals(self):
        box = ((3,), 2, (2, 0))
        for name in (*ODD_THINGS, 0, "", "none", "make", "box", ("see",), deep_thing(50000)):
            self.refuses(OutOfPlace, {}, done_over, UPPER, LOWER, MODULE, LOWER_MAKING, name, None)
        wrong = ((), (box,), (box, (0,)), (box, (0,), 0, 0), [box, (0,), 0], ((0,), box, 0), deep_thing(50000))
        for handed in (*ODD_THINGS, 0, "ab", *wrong):
            self.refuses(OutOfPlace, {}, done_over, UPPER, LOWER, MODULE, LOWER_MAKING, "both", handed)
        for thing in (
            *ODD_THINGS,
            0,
            "ab",
            (),
            ((3,), 2),
            ((3,), 2, (2, 0), 0),
            [(3,), 2, (2, 0)],
            ((5,), 2, (2, 0)),
            ((-1,), 2, (2, 0)),
            ((True,), 2, (2, 0)),
            ([3], 2, (2, 0)),
            (3, 2, (2, 0)),
            ((3, 0), 2, (2, 0)),
            ((3,), 4, (2, 0)),
            ((3,), -1, (2, 0)),
            ((3,), True, (2, 0)),
            ((3,), (2,), (2, 0)),
            ((3,), 2, (2,)),
            ((3,), 2, (2, 2)),
            ((3,), 2, (3, 0)),
            ((3,), 2, None),
            ((3,), 2, 2, 0),
            ((2, 0), 2, (3,)),
            deep_thing(50000),
        ):
            self.refuses(OutOfPlace, {}, done_over, UPPER, LOWER, MODULE, LOWER_MAKING, "both", (thing, (0,), 0))
            self.refuses(OutOfPlace, {}, done_over, UPPER, LOWER, MODULE, LOWER_MAKING, "see", (thing,))
            self.refuses(OutOfPlace, {}, flat_over, UPPER, LOWER, MODULE, LOWER_MAKING, "box", thing)
        for coin in (*ODD_THINGS, 0, (6,), (-1,), (True,), (), (0, 0), [0]):
            self.refuses(OutOfPlace, {}, done_over, UPPER, LOWER, MODULE, LOWER_MAKING, "both", (box, coin, 0))
            self.refuses(OutOfPlace, {}, flat_over, UPPER, LOWER, MODULE, LOWER_MAKING, "coin", coin)
        for number in (*ODD_THINGS, 2, -1, "0", (0,), 10**40):
            self.refuses(OutOfPlace, {}, done_over, UPPER, LOWER, MODULE, LOWER_MAKING, "both", (box, (0,), number))

    def test_flat(self):
        told = flat_over(UPPER, LOWER, MODULE, LOWER_MAKING, "box", ((3,), 2, (2, 0)))
        self.same_form(told, (3, 2, 2, 0))
        self.same_form(flat_over(UPPER, LOWER, MODULE, LOWER_MAKING, "coin", (5,)), (5,))
        for kind in (*ODD_THINGS, 0, "", "cell", "tag", "none", ("box",), deep_thing(50000)):
            self.refuses(OutOfPlace, {}, flat_over, UPPER, LOWER, MODULE, LOWER_MAKING, kind, None)

    def test_order(self):
        nothing = {"part": None, "number": None}
        for thing in (*ODD_THINGS, 1, "ab", (), deep_thing(50000)):
            for call in (done_over, flat_over):
                self.refuses(BadFace, nothing, call, thing, thing, thing, thing, thing, thing)
                self.refuses(BadFace, nothing, call, UPPER, thing, thing, thing, thing, thing)
                self.refuses(BadModule, nothing, call, UPPER, LOWER, thing, thing, thing, thing)
                self.refuses(BadMaking, nothing, call, UPPER, LOWER, MODULE, thing, thing, thing)
                self.refuses(OutOfPlace, {}, call, UPPER, LOWER, MODULE, LOWER_MAKING, thing, thing)
        fields = {"part": "bodies", "number": None}
        self.refuses(BadMaking, fields, done_over, UPPER, LOWER, MODULE, (LOWER_MAKING[0], ()), 1, 1)

    def test_of_a_making(self):
        # A making, as a module, does what it does.
        rng = random.Random(72)
        for step in range(60):
            face = chance_face(rng)
            making = chance_making(rng, face)
            plain = PlainOver(face, LOWER, making, LOWER_MAKING)
            for name, takes, gives in face[1]:
                handed = tuple(rng.choice(plain.worths(kind)) for kind in takes)
                told = done(face, making, name, handed)
                self.same_form(done_over(face, LOWER, making, LOWER_MAKING, name, handed), told)

    def test_as_the_document_says(self):
        rng = random.Random(73)
        given = 0
        for step in range(150):
            upper, lower = chance_face(rng, 5), chance_face(rng, 5)
            module = chance_module(rng, upper, lower)
            making = chance_making(rng, lower)
            plain = PlainOver(upper, lower, module, making)
            for name, takes, gives in upper[1]:
                for again in range(4):
                    handed = tuple(rng.choice(plain.worths(kind)) for kind in takes)
                    told = plain.done(name, handed)
                    self.same_form(done_over(upper, lower, module, making, name, handed), told)
                    if isinstance(told, tuple):
                        given += 1
                        self.same_form(flat_over(upper, lower, module, making, gives, told), flat(told))
        self.assertGreater(given, 100)


if __name__ == "__main__":
    unittest.main()
