import random
import unittest

from sameface.doing import done
from sameface.errors import BadFace, BadMaking, BadModule, TooGreat
from sameface.facetext import read_face
from sameface.inlining import inlined, put_into
from sameface.makings import is_making
from sameface.makingtext import read_making
from sameface.modules import done_over, is_module
from sameface.moduletext import read_module
from tests.helpers import ODD_THINGS, FieldsCase, bounds_in, chance_face, chance_making, deep_thing
from tests.modulehelp import PlainOver, chance_module, flat, plain_is_module, plain_put
from tests.test_modules import LOWER, LOWER_MAKING, MODULE, UPPER, sum_of

# One deed that takes a thing of each sort; "a" is what tests make of it.
TOP = read_face("hidden a\ngo a 7 : a\nsee a : 9")
MIDDLE = read_face("hidden b\nadd b 5 : b\nask b : 4\nboth b b : b\nnew : b")
BOTTOM = read_face("hidden c d\ncut c 3 : c\nget c : 6\nzero : c\nzone : d")
E_1 = ("number", 1)
REFUSE = ("refuse",)


class FormTest(FieldsCase):
    """Each exchange, by its form: "go" alone has a body, "see" refuses."""

    def puts(self, shape, go, middle, told):
        """A module of TOP, by "a"'s shape and "go"'s words, over MIDDLE; one of MIDDLE by its text over BOTTOM."""
        first = read_module(TOP, MIDDLE, f"shape a {shape}\ngo {go}\nsee refuse")
        module = read_module(MIDDLE, BOTTOM, middle)
        due = read_module(TOP, BOTTOM, told + "\nsee refuse")
        self.same_form(put_into(TOP, MIDDLE, BOTTOM, first, module), due)
        if is_making(MIDDLE, module):
            self.same_form(inlined(TOP, MIDDLE, first, module), due)

    def test_no_calls(self):
        # Fields move to where they stand: of two fields in b's place the second, of a bound behind them the third.
        middle = "shape b 3 2\nadd refuse\nask refuse\nboth refuse\nnew refuse"
        told = "shape a 3 2 2\ngo give in 0 0 , in 0 1 , plus in 0 2 in 1 0"
        self.puts("of b 2", "give in 0 0 , plus in 0 1 in 1 0", middle, told)
        self.puts("2 of b", "give in 0 0 , in 0 1", middle, "shape a 2 3 2\ngo give in 0 0 , in 0 1 , in 0 2")
        self.puts("2", "when in 0 0 refuse give in 1 0", middle, "shape a 2\ngo when in 0 0 refuse give in 1 0")

    def test_numbers_are_rests_by_their_kind(self):
        middle = "shape b 3\nadd give plus in 0 0 in 1 0\nask give in 0 0\nboth refuse\nnew refuse"
        # What is handed: in 1 0 by 5; what is given by b's bound, 3.
        self.puts(
            "of b",
            "call add in 0 0 , in 1 0 give got 0",
            middle,
            "shape a 3\ngo give rest plus in 0 0 rest in 1 0 5 3",
        )
        # A plain kind that is brought, of 4.
        self.puts(
            "of b 2",
            "call ask in 0 0 give in 0 0 , got 0",
            middle,
            "shape a 3 2\ngo give in 0 0 , rest in 0 0 4",
        )
        # Numbers that need none have one all the same.
        self.puts("of b", "call add in 0 0 , 1 give got 0", middle, "shape a 3\ngo give rest plus in 0 0 rest 1 5 3")

    def test_what_is_handed_may_be_got(self):
        middle = "shape b 3\nadd give plus in 0 0 in 1 0\nask give in 0 0\nboth give times in 0 0 in 1 0\nnew give 2"
        self.puts(
            "of b",
            "call new call both in 0 0 , got 0 give got 1",
            middle,
            "shape a 3\ngo give rest times in 0 0 rest 2 3 3",
        )
        self.puts(
            "of b",
            "call ask in 0 0 call add in 0 0 , plus got 0 1 give got 1",
            middle,
            "shape a 3\ngo give rest plus in 0 0 rest plus rest in 0 0 4 1 5 3",
        )

    def test_whens_and_refusals(self):
        middle = "shape b 3\nadd when in 1 0 give in 0 0 refuse\nask when in 0 0 give 1 give 2\nboth refuse\nnew give 0"
        self.puts(
            "of b",
            "call add in 0 0 , in 1 0 give got 0",
            middle,
            "shape a 3\ngo when rest in 1 0 5 give rest in 0 0 3 refuse",
        )
        # What stands behind stands in the place of each give.
        self.puts(
            "of b",
            "call ask in 0 0 when got 0 refuse call new give got 1",
            middle,
            "shape a 3\ngo when in 0 0 when rest 1 4 refuse give rest 0 3 when rest 2 4 refuse give rest 0 3",
        )
        self.puts(
            "of b",
            "when in 1 0 call both in 0 0 , in 0 0 give in 0 0 call new give got 0",
            middle,
            "shape a 3\ngo when in 1 0 refuse give rest 0 3",
        )

    def test_fields_of_worths(self):
        # b has a number and a c: of a W all fields stand in a give, each by itself where it is handed.
        middle = (
            "shape b 2 of c\nadd give in 1 0 , in 0 1\nask call get in 0 1 give plus got 0 in 0 0\n"
            "both give in 1 0 , in 0 1\nnew call zero give 1 , got 0"
        )
        self.puts("of b", "give in 0 0", middle, "shape a 2 of c\ngo give in 0 0 , in 0 1")
        self.puts(
            "3 of b",
            "call both in 0 1 , in 0 1 give in 0 0 , got 0",
            middle,
            "shape a 3 2 of c\ngo give in 0 0 , rest in 0 1 2 , in 0 2",
        )
        self.puts(
            "of b",
            "call add in 0 0 , 7 call both got 0 , in 0 0 give got 1",
            middle,
            "shape a 2 of c\ngo give rest in 0 0 2 , in 0 1",
        )
        self.puts(
            "of b",
            "call new give got 0",
            middle,
            "shape a 2 of c\ngo call zero give rest 1 2 , got 0",
        )

    def test_calls_stay_their_numbers_told_anew(self):
        middle = (
            "shape b of c\nadd call cut in 0 0 , in 1 0 give got 0\n"
            "ask call get in 0 0 when got 0 call zero call get got 1 give got 2 give 1\n"
            "both call cut in 1 0 , 1 call cut got 0 , 2 give got 1\nnew call zero give got 0"
        )
        # Two calls, one in it two, behind each other: of four calls the last one is the third.
        self.puts(
            "of b",
            "call new call both in 0 0 , got 0 call add got 1 , in 1 0 give got 2",
            middle,
            "shape a of c\ngo call zero call cut got 0 , 1 call cut got 1 , 2 "
            "call cut got 2 , rest in 1 0 5 give got 3",
        )
        # By which give what stands behind is reached, so many calls are around.
        self.puts(
            "of b",
            "call ask in 0 0 call new when got 0 give got 1 refuse",
            middle,
            "shape a of c\ngo call get in 0 0 when got 0 call zero call get got 1 "
            "call zero when rest got 2 4 give got 3 refuse "
            "call zero when rest 1 4 give got 1 refuse",
        )

    def test_over_two_kinds(self):
        # d is none of c: each field is what stood there.
        middle = (
            "shape b of d of c\nadd refuse\nask refuse\nboth give in 0 0 , in 1 1\n"
            "new call zone call zero give got 0 , got 1"
        )
        self.puts(
            "of b",
            "call new call both in 0 0 , got 0 give got 1",
            middle,
            "shape a of d of c\ngo call zone call zero give in 0 0 , got 1",
        )

    def test_what_isnt_used_isnt_there(self):
        # However great an E is that is handed, and nobody asks for it.
        middle = "shape b 3\nadd give in 0 0\nask give 0\nboth give in 1 0\nnew give 0"
        first = read_module(TOP, MIDDLE, "shape a of b\ngo refuse\nsee refuse")
        first = (first[0], (("call", "add", (("in", 0, 0), sum_of(55)), ("give", (("got", 0),))), first[1][1]))
        told = inlined(TOP, MIDDLE, first, read_making(MIDDLE, middle))
        self.same_form(told, (((3,),), (("give", (("rest", ("in", 0, 0), 3),)), REFUSE)))


class TooGreatTest(FieldsCase):
    def great(self, first, module, due):
        if due:
            self.refuses(TooGreat, {}, put_into, TOP, MIDDLE, BOTTOM, first, module)
            if is_making(MIDDLE, module):
                self.refuses(TooGreat, {}, inlined, TOP, MIDDLE, first, module)
        else:
            told = put_into(TOP, MIDDLE, BOTTOM, first, module)
            self.assertIs(is_module(TOP, BOTTOM, told), True)
            if is_making(MIDDLE, module):
                self.same_form(inlined(TOP, MIDDLE, first, module), told)

    def module(self, shape, new=REFUSE, ask=REFUSE):
        return ((shape,), (REFUSE, ask, REFUSE, new))

    def first(self, shape, go=REFUSE, see=REFUSE):
        return ((shape,), (go, see))

    def test_fields(self):
        b = ("of", "b")
        self.great(self.first((b, b)), self.module((2, 2)), True)
        self.great(self.first((b, 2)), self.module((2, 2)), False)
        self.great(self.first((b, 2, 2)), self.module((2, 2)), True)
        self.great(self.first((b, b, b)), self.module((2,)), False)
        self.great(self.first((b, b)), self.module((("of", "c"), 2)), True)
        self.great(self.first((b,)), self.module((("of", "c"), ("of", "d"), 2)), False)

    def test_bounds(self):
        b = ("of", "b")
        self.great(self.first((b, 4)), self.module((4,)), False)
        self.great(self.first((b, 4)), self.module((5,)), True)
        self.great(self.first((b, b)), self.module((4,)), False)
        self.great(self.first((b, b)), self.module((5,)), True)
        self.great(self.first((b, b, b)), self.module((3,)), True)
        self.great(self.first((9, b)), self.module((("of", "c"),)), False)

    def test_parts(self):
        # A give of a rest of an E: two parts more.
        call = ("call", "new", (), ("give", (("got", 0),)))
        for many, due in ((55, False), (57, False), (59, True)):
            make = self.module((2,), ("give", (sum_of(many),)))
            self.great(self.first((("of", "b"),), see=REFUSE, go=call), make, due)
        # Beside another field just sixty, and sixty-two.
        call = ("call", "new", (), ("give", (("got", 0), E_1)))
        for many, due in ((57, False), (59, True)):
            make = self.module((2,), ("give", (sum_of(many),)))
            self.great(self.first((("of", "b"), 2), go=call), make, due)
        # And sixty-one.
        call = ("call", "new", (), ("give", (("got", 0), ("rest", E_1, 2))))
        self.great(self.first((("of", "b"), 2), go=call), self.module((2,), ("give", (sum_of(57),))), True)
        # Twice what is given.
        call = ("call", "ask", (("in", 0, 0),), ("give", (("plus", ("got", 0), ("got", 0)),)))
        for many, due in ((27, False), (29, True)):
            self.great(self.first((("of", "b"),), see=call), self.module((2,), ask=("give", (sum_of(many),))), due)
        # Bodies: a when of a when .., behind each give once more.
        whens = ("when", E_1, ("give", (E_1,)), ("give", (E_1,)))
        for many, due in ((1, False), (2, False), (3, False), (4, True)):
            nested = ("give", (E_1,))
            for step in range(many):
                nested = ("call", "ask", (("in", 0, 0),), nested)
            # A when, its E, and twice those within: 2, 6, 14, 30, 62.
            self.great(self.first((("of", "b"),), see=nested), self.module((2,), ask=whens), due)

    def test_depth(self):
        call = ("call", "new", (), ("give", (("got", 0),)))
        deep = E_1
        for step in range(5):
            deep = ("rest", deep, 2)
        self.great(self.first((("of", "b"),), go=call), self.module((2,), ("give", (deep,))), False)
        self.great(self.first((("of", "b"),), go=call), self.module((2,), ("give", (("rest", deep, 2),))), True)
        # By bodies alone.
        for many, due in ((5, False), (6, True)):
            lower = ("give", (E_1,))
            for step in range(many):
                lower = ("call", "zero", (), lower)
            see = ("call", "ask", (("in", 0, 0),), ("when", ("got", 0), REFUSE, REFUSE))
            self.great(self.first((("of", "b"),), see=see), self.module((2,), ask=lower), due)

    def test_much_too_great(self):
        # Seven calls, each of which goes on at fourteen places: it is refused at once, not behind millions of bodies.
        whens = give = ("give", (("in", 0, 0),))
        for step in range(3):
            whens = ("when", ("in", 0, 0), whens, whens)
        whens = ("when", ("in", 0, 0), whens, ("when", ("in", 0, 0), whens[2], ("when", ("in", 0, 0), give, give)))
        see = REFUSE
        for step in range(7):
            see = ("call", "ask", (("in", 0, 0),), see)
        self.great(self.first((("of", "b"),), see=see), self.module((2,), ask=whens), True)
        # And an E that would have millions of parts.
        power = ("in", 0, 0)
        for step in range(4):
            power = ("times", power, power)
        module = (((2,),), (("give", (power,)), REFUSE, REFUSE, REFUSE))
        go = ("give", (("got", 5),))
        for step in range(5, -1, -1):
            handed = ("got", step - 1) if step else ("in", 0, 0)
            go = ("call", "add", (handed, E_1), go)
        self.great(self.first((("of", "b"),), go=go), module, True)


class BetweenTest(FieldsCase):
    def test_inlined_is_what_it_is_over(self):
        rng = random.Random(74)
        met = {"great": 0, "given": 0}
        for step in range(250):
            upper, lower = chance_face(rng, 5), chance_face(rng, 5)
            module = chance_module(rng, upper, lower, 2)
            making = chance_making(rng, lower, ((2,), (3,), (2, 2)))
            due = plain_put(upper, lower, module, making)
            if due is None or plain_is_module(upper, lower, due) is not None:
                met["great"] += 1
                self.refuses(TooGreat, {}, inlined, upper, lower, module, making)
                continue
            told = inlined(upper, lower, module, making)
            self.same_form(told, due)
            self.assertIs(is_making(upper, told), True)
            plain = PlainOver(upper, lower, module, making)
            for name, takes, gives in upper[1]:
                for again in range(3):
                    handed = tuple(rng.choice(plain.worths(kind)) for kind in takes)
                    flat_handed = tuple(h if isinstance(k, int) else flat(h) for k, h in zip(takes, handed))
                    over = done_over(upper, lower, module, making, name, handed)
                    met["given"] += over is not None
                    over = flat(over) if isinstance(over, tuple) else over
                    self.same_form(done(upper, told, name, flat_handed), over)
        self.assertGreater(min(met.values()), 30, met)

    def test_put_into_is_the_one_over_the_other(self):
        rng = random.Random(75)
        met = {"great": 0, "given": 0}
        for step in range(250):
            top, upper, lower = [chance_face(rng, 4) for place in range(3)]
            first, module = chance_module(rng, top, upper, 2), chance_module(rng, upper, lower, 2)
            due = plain_put(top, upper, first, module)
            if due is None or plain_is_module(top, lower, due) is not None:
                met["great"] += 1
                self.refuses(TooGreat, {}, put_into, top, upper, lower, first, module)
                continue
            told = put_into(top, upper, lower, first, module)
            self.same_form(told, due)
            making = chance_making(rng, lower, ((2,), (3,)))
            laid = PlainOver(top, upper, first, PlainOver(upper, lower, module, making))
            for name, takes, gives in top[1]:
                handed = tuple(rng.choice(laid.worths(kind)) for kind in takes)
                over = laid.done(name, handed)
                met["given"] += over is not None
                spread = tuple(self.spread(top, first, kind, thing) for kind, thing in zip(takes, handed))
                over = None if over is None else self.spread(top, first, gives, over)
                self.same_form(done_over(top, lower, told, making, name, spread), over)
        self.assertGreater(min(met.values()), 30, met)

    def spread(self, top, first, kind, thing):
        """A worth with the fields of each worth in it."""
        if isinstance(kind, int):
            return thing
        fields = []
        for field, told in zip(bounds_in(top, first[0], kind), thing):
            fields.extend((told,) if isinstance(field, int) else told)
        return tuple(fields)

    def test_inlined_twice_or_put_into_first(self):
        rng = random.Random(76)
        met = 0
        for step in range(200):
            top, upper, lower = [chance_face(rng, 3) for place in range(3)]
            first, module = chance_module(rng, top, upper, 1), chance_module(rng, upper, lower, 1)
            making = chance_making(rng, lower, ((2,), (3,)))
            try:
                one = inlined(top, lower, put_into(top, upper, lower, first, module), making)
                other = inlined(top, upper, first, inlined(upper, lower, module, making))
            except TooGreat:
                continue
            met += 1
            self.assertEqual(one[0], other[0])
            for name, takes, gives in top[1]:
                handed = tuple(rng.choice(PlainOver(top, lower, one, making).worths(kind)) for kind in takes)
                self.same_form(done(top, one, name, handed), done(top, other, name, handed))
        self.assertGreater(met, 50)


class RefusedTest(FieldsCase):
    def test_in_order(self):
        nothing = {"part": None, "number": None}
        upper = ((("of", "cell"),), (2,)), (REFUSE,) * 5
        for thing in (*ODD_THINGS, 1, "ab", (), deep_thing(50000)):
            self.refuses(BadFace, nothing, inlined, thing, thing, thing, thing)
            self.refuses(BadFace, nothing, inlined, UPPER, thing, thing, thing)
            self.refuses(BadModule, nothing, inlined, UPPER, LOWER, thing, thing)
            self.refuses(BadMaking, nothing, inlined, UPPER, LOWER, MODULE, thing)
            self.refuses(BadFace, nothing, put_into, thing, thing, thing, thing, thing)
            self.refuses(BadFace, nothing, put_into, UPPER, thing, thing, thing, thing)
            self.refuses(BadFace, nothing, put_into, UPPER, LOWER, thing, thing, thing)
            self.refuses(BadModule, nothing, put_into, UPPER, LOWER, BOTTOM, thing, thing)
            self.refuses(BadModule, nothing, put_into, UPPER, LOWER, BOTTOM, upper, thing)
        faces = ((UPPER[0], ()), ((), LOWER[1]), None)
        for at, fields in enumerate(({"part": "deeds"}, {"part": "hidden"}, {"part": None})):
            told = [UPPER, LOWER, BOTTOM][:at] + list(faces[at:])
            self.refuses(BadFace, fields, put_into, *told, None, None)
            right = [UPPER, LOWER, BOTTOM]
            right[at] = faces[at]
            self.refuses(BadFace, fields, put_into, *right, upper, LOWER_MAKING)
        # Each fault by its own place: the first module's bodies ahead of the second one's shapes.
        bad_first, bad_second = (upper[0], (*upper[1][:4], None)), (((1,), (2,)), LOWER_MAKING[1])
        fields = {"part": "bodies", "number": 4}
        self.refuses(BadModule, fields, put_into, UPPER, LOWER, BOTTOM, bad_first, bad_second)
        fields = {"part": "shapes", "number": 0}
        self.refuses(BadModule, fields, put_into, UPPER, LOWER, BOTTOM, upper, bad_second)
        self.refuses(BadMaking, fields, inlined, UPPER, LOWER, upper, bad_second)
        # Four fields: a box has a cell, a number and a tag of two.
        self.refuses(TooGreat, {}, inlined, UPPER, LOWER, MODULE, LOWER_MAKING)


if __name__ == "__main__":
    unittest.main()
