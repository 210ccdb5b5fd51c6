import itertools
import random
import unittest

from sameface.coming import come_to
from sameface.errors import BadFace, BadMaking, BadModule, BadPaper, OutOfPlace, ToldApart, TooGreat
from sameface.facetext import read_face
from sameface.inlining import inlined
from sameface.makings import is_making
from sameface.makingtext import read_making
from sameface.moduletext import read_module
from sameface.overpaper import are_lifted, check_over, come_over, is_same_over, over_paper
from sameface.related import apart, is_same, least_relation
from sameface.samepaper import same_paper
from tests.helpers import ODD_THINGS, FieldsCase, chance_face, chance_making, deep_thing, with_more
from tests.modulehelp import (
    RICH,
    RICH_MAKINGS,
    PlainComing,
    PlainOver,
    chance_module,
    flat,
    rich_module,
    rich_upper,
)
from tests.test_modules import LOWER, LOWER_MAKING, MODULE, UPPER
from tests.test_related import BITS, BOX, FULL, MARKED, ODD, WHOLE

# A shelf has a box and a number; "peek" sees the box.
SHELF = read_face("hidden shelf\nfill shelf 3 : shelf\nlay : shelf\npeek shelf : 9\nturn shelf : shelf")
SHELF_MODULE = read_module(
    SHELF,
    BOX,
    "shape shelf 2 of box\nfill call add in 0 1 , in 1 0 give in 0 0 , got 0\nlay call new give 0 , got 0\n"
    "peek call see in 0 1 give plus got 0 times 4 in 0 0\nturn give plus 1 in 0 0 , in 0 1",
)
# Here nothing is seen of the box.
DIM_PEEK = ("call", "see", (("in", 0, 1),), ("give", (("number", 5),)))
DIM_MODULE = (SHELF_MODULE[0], (*SHELF_MODULE[1][:2], DIM_PEEK, SHELF_MODULE[1][3]))

# Wheels of so many, one beside the other: a pair of wheels has a state for each two of theirs.
WHEEL = read_face("hidden w\ngo w : w\nlook w : 9\nnew : w")
WHEELS = read_face("hidden p\nfirst p : p\nmake : p\nsecond p : p\nsee p : 9")
WHEELS_MODULE = read_module(
    WHEELS,
    WHEEL,
    "shape p of w of w\nfirst call go in 0 0 give got 0 , in 0 1\nmake call new give got 0 , got 0\n"
    "second call go in 0 1 give in 0 0 , got 0\nsee call look in 0 0 give got 0",
)


def round_wheel(many, look="0"):
    """A wheel of so many states, up to 16: it goes on by one, and from the last one to the first."""
    last = f"same plus in 0 0 times 8 in 0 1 {many - 1}"
    return read_making(
        WHEEL,
        f"shape w 8 2\ngo give if {last} 0 plus in 0 0 1 , if {last} 0 if same in 0 0 7 1 in 0 1\nlook give {look}\n"
        "new give 0 , 0",
    )


class ComeTest(FieldsCase):
    def test_level_by_level(self):
        told = come_over(SHELF, BOX, SHELF_MODULE, WHOLE, "shelf")
        # At first "lay"; then "fill" with 0 (which is there), 1, 2 and "turn"; and so on.
        due = [(0, (0,)), (0, (1,)), (0, (2,)), (1, (0,)), (0, (3,)), (1, (1,)), (1, (2,)), (1, (3,))]
        self.same_form(told, due)

    def test_over_a_making_of_two_fields(self):
        told = come_over(SHELF, BOX, SHELF_MODULE, BITS, "shelf")
        due = [(0, (0, 0)), (0, (0, 1)), (0, (1, 0)), (1, (0, 0)), (0, (1, 1)), (1, (0, 1)), (1, (1, 0)), (1, (1, 1))]
        self.same_form(told, due)

    def test_nothing(self):
        making = read_making(BOX, "shape box 4\nadd refuse\nnew refuse\nsee give 0")
        self.same_form(come_over(SHELF, BOX, SHELF_MODULE, making, "shelf"), [])

    def test_a_hundred_and_one_more(self):
        for one, many in ((10, 100), (9, 81)):
            told = come_over(WHEELS, WHEEL, WHEELS_MODULE, round_wheel(one), "p")
            self.assertEqual(len(told), many)
            self.assertEqual(len(set(told)), many)
        self.refuses(TooGreat, {}, come_over, WHEELS, WHEEL, WHEELS_MODULE, round_wheel(11), "p")
        # A hundred of one kind, and one more of another one.
        face = read_face("hidden p q\nfirst p : p\nmake : p\nsecond p : p\nsee p : 9\nzero : q")
        module = read_module(
            face,
            WHEEL,
            "shape p of w of w\nshape q 2\nfirst call go in 0 0 give got 0 , in 0 1\nmake call new give got 0 , got 0\n"
            "second call go in 0 1 give in 0 0 , got 0\nsee call look in 0 0 give got 0\nzero give 0",
        )
        for kind in ("p", "q"):
            self.refuses(TooGreat, {}, come_over, face, WHEEL, module, round_wheel(10), kind)
        self.same_form(come_over(face, WHEEL, module, round_wheel(9), "q"), [(0,)])
        silent = (module[0], (*module[1][:4], ("refuse",)))
        self.same_form(come_over(face, WHEEL, silent, round_wheel(10), "q"), [])
        self.refuses(OutOfPlace, {}, come_over, face, WHEEL, module, round_wheel(10), "w")

    def test_of_a_making(self):
        rng = random.Random(77)
        for step in range(60):
            face = chance_face(rng)
            making = chance_making(rng, face)
            for kind in face[0]:
                self.same_form(come_over(face, LOWER, making, LOWER_MAKING, kind), come_to(face, making, kind))

    def test_told_lists_are_the_askers_own(self):
        told = come_over(SHELF, BOX, SHELF_MODULE, WHOLE, "shelf")
        told.clear()
        self.assertEqual(len(come_over(SHELF, BOX, SHELF_MODULE, WHOLE, "shelf")), 8)

    def test_as_the_document_says(self):
        rng = random.Random(78)
        met = []
        for step in range(150):
            if step % 5:
                upper, lower = chance_face(rng, 5), chance_face(rng, 5)
                module = chance_module(rng, upper, lower)
                making = chance_making(rng, lower, ((2,), (3,), (2, 2)))
            else:
                upper, lower, making = rich_upper(rng), RICH, rng.choice(RICH_MAKINGS)
                module = rich_module(rng, upper)
            plain = PlainComing(PlainOver(upper, lower, module, making))
            met.append(plain.many())
            for kind in upper[0]:
                if plain.many() > 100:
                    self.refuses(TooGreat, {}, come_over, upper, lower, module, making, kind)
                else:
                    told = come_over(upper, lower, module, making, kind)
                    self.same_form(told, [thing[0] for thing in plain.things[kind]])
        self.assertGreater(len([many for many in met if many > 10]), 10)

    def test_as_by_the_inlined_making(self):
        # Flat they are those of the inlined making, at the same numbers.
        rng = random.Random(79)
        met = 0
        for step in range(150):
            upper, lower = chance_face(rng, 5), chance_face(rng, 5)
            module = chance_module(rng, upper, lower, 1)
            making = chance_making(rng, lower, ((2,), (3,), (2, 2)))
            try:
                told = inlined(upper, lower, module, making)
            except TooGreat:
                continue
            for kind in upper[0]:
                over = come_over(upper, lower, module, making, kind)
                self.same_form([flat(worth) for worth in over], come_to(upper, told, kind))
                met += len(over) > 1
        self.assertGreater(met, 20)


class SameTest(FieldsCase):
    def same(self, told, one, other, module=SHELF_MODULE):
        self.assertIs(is_same_over(SHELF, BOX, module, one, other), told)

    def test_same_over_same_makings(self):
        for one, other in itertools.product((WHOLE, BITS, MARKED), repeat=2):
            self.same(True, one, other)

    def test_apart(self):
        for one in (WHOLE, BITS, MARKED):
            for other in (FULL, ODD):
                self.same(False, one, other)
                self.same(False, other, one)

    def test_same_over_makings_that_arent(self):
        # What is in the box nobody sees; but a refusal is seen.
        self.assertIs(is_same(BOX, WHOLE, ODD), False)
        self.same(True, WHOLE, ODD, DIM_MODULE)
        self.same(False, WHOLE, FULL, DIM_MODULE)
        # Filled but once a box isn't full; filled with 0 and 1 alone it is at last.
        body = ("when", ("same", ("in", 1, 0), ("number", 2)), ("refuse",), SHELF_MODULE[1][0])
        added = ("call", "add", (("in", 0, 1), ("in", 1, 0)), ("give", (("number", 1), ("got", 0))))
        once = ("when", ("in", 0, 0), ("refuse",), added)
        self.same(True, WHOLE, FULL, (SHELF_MODULE[0], (once, *SHELF_MODULE[1][1:3], ("refuse",))))
        self.same(False, WHOLE, FULL, (SHELF_MODULE[0], (body, *SHELF_MODULE[1][1:])))

    def test_a_number_of_a_deed_that_takes_no_worth(self):
        face = read_face("hidden a\nask : 9\nnew : a")
        module = read_module(face, WHEEL, "shape a 2\nask call new call look got 0 give got 1\nnew give 0")
        self.assertIs(is_same_over(face, WHEEL, module, round_wheel(3), round_wheel(5)), True)
        self.assertIs(is_same_over(face, WHEEL, module, round_wheel(3), round_wheel(5, "1")), False)

    def test_150_pairs_and_151(self):
        # Two wheels, each beside one of another making: so many pairs as both have states together.
        def pairs(one, other):
            return round_wheel(one), round_wheel(other)

        # One wheel alone goes: 10 by 15 are beside one another in 30 ways, 13 by 11 in 143, 14 by 11 in 154.
        module = (WHEELS_MODULE[0], (*WHEELS_MODULE[1][:2], ("refuse",), WHEELS_MODULE[1][3]))
        self.assertIs(is_same_over(WHEELS, WHEEL, module, *pairs(13, 11)), True)
        self.refuses(TooGreat, {}, is_same_over, WHEELS, WHEEL, module, *pairs(14, 11))
        self.assertIs(is_same_over(WHEELS, WHEEL, module, *pairs(16, 9)), True)
        self.refuses(TooGreat, {}, is_same_over, WHEELS, WHEEL, module, *pairs(16, 11))
        # Just 150: 15 by 10 are beside one another in 30, and a mark of five goes by itself.
        face = read_face("hidden p\nfirst p : p\nmake : p\nstep p : p")
        five = read_module(
            face,
            WHEEL,
            "shape p of w 5\nfirst call go in 0 0 give got 0 , in 0 1\nmake call new give got 0 , 0\n"
            "step give in 0 0 , plus in 0 1 1",
        )
        self.assertIs(is_same_over(face, WHEEL, five, *pairs(15, 10)), True)
        # One more of another kind.
        more = read_face("hidden p q\nfirst p : p\nmake : p\nstep p : p\nzero : q")
        one_more = ((*five[0], (2,)), (*five[1], ("give", (("number", 0),))))
        self.refuses(TooGreat, {}, is_same_over, more, WHEEL, one_more, *pairs(15, 10))
        # Also where the first deed tells them apart.
        told = read_face("hidden p q\nask : 2\nfirst p : p\nmake : p\nstep p : p\nzero : q")
        ask = ("call", "new", (), ("call", "look", (("got", 0),), ("give", (("got", 1),))))
        seen = (one_more[0], (ask, *one_more[1]))
        self.refuses(TooGreat, {}, is_same_over, told, WHEEL, seen, round_wheel(15), round_wheel(10, "1"))
        self.assertIs(is_same_over(told, WHEEL, seen, round_wheel(15), round_wheel(5, "1")), False)

    def test_many_by_one_making_alone_are_no_matter(self):
        # By the one making there are hundreds, by the other one nothing is come to.
        nothing = read_making(WHEEL, "shape w 2\ngo refuse\nlook refuse\nnew refuse")
        self.assertIs(is_same_over(WHEELS, WHEEL, WHEELS_MODULE, round_wheel(16), nothing), False)
        self.assertIs(is_same_over(WHEELS, WHEEL, WHEELS_MODULE, nothing, nothing), True)

    def test_as_the_document_says(self):
        rng = random.Random(80)
        met = {True: 0, False: 0}
        for step in range(120):
            if step % 5:
                upper, lower = chance_face(rng, 5), chance_face(rng, 5)
                module = chance_module(rng, upper, lower)
                one = chance_making(rng, lower, ((2,), (3,), (2, 2)))
                other = with_more(rng, lower, one, 0) if step % 3 else chance_making(rng, lower, ((2,), (3,)))
            else:
                # The plain search is slow: deeds that take two worths are left aside.
                deeds = tuple(deed for deed in rich_upper(rng)[1] if deed[1] != ("a", "a"))
                upper, lower, one, other = (("a",), deeds), RICH, *rng.sample(RICH_MAKINGS, 2)
                module = rich_module(rng, upper)
            if not is_making(lower, other):
                continue
            plain = PlainComing(PlainOver(upper, lower, module, one), PlainOver(upper, lower, module, other))
            if plain.many() > 150:
                self.refuses(TooGreat, {}, is_same_over, upper, lower, module, one, other)
                continue
            told = is_same_over(upper, lower, module, one, other)
            self.assertIs(told, not plain.parted)
            met[told] += 1
            if is_same(lower, one, other):
                self.assertIs(told, True)
                paper = over_paper(upper, lower, module, one, other)
                self.assertIsNone(check_over(upper, lower, module, one, other, paper))
                for kind in upper[0]:
                    for first, second in plain.things[kind]:
                        lifted = are_lifted(upper, lower, module, one, other, paper[1][1], kind, first, second)
                        self.assertIs(lifted, True)
        self.assertGreater(min(met.values()), 5, met)


class LiftedTest(FieldsCase):
    def lifted(self, told, relation, first, second, one=WHOLE, other=BITS):
        self.assertIs(are_lifted(SHELF, BOX, SHELF_MODULE, one, other, relation, "shelf", first, second), told)

    def test_lifted(self):
        relation = least_relation(BOX, WHOLE, BITS)
        for number, other, mark, other_mark in itertools.product(range(4), range(4), range(2), range(2)):
            told = number == other and mark == other_mark
            self.lifted(told, relation, (mark, (number,)), (other_mark, (other // 2, other % 2)))

    def test_by_any_relation(self):
        self.lifted(False, ((),), (0, (0,)), (0, (0, 0)))
        pairs = (((0,), (1, 1)), ((2,), (0, 1)))
        self.lifted(True, (pairs,), (0, (0,)), (0, (1, 1)))
        self.lifted(True, (pairs,), (1, (2,)), (1, (0, 1)))
        self.lifted(False, (pairs,), (1, (2,)), (0, (0, 1)))
        self.lifted(False, (pairs,), (0, (0,)), (0, (0, 1)))

    def test_of_two_lower_kinds(self):
        cells, tags = (((1,), (2,)),), (((0, 1), (1, 0)),)
        box, other = ((1,), 3, (0, 1)), ((2,), 3, (1, 0))
        for relation, told in (((cells, tags), True), ((cells, ()), False), (((), tags), False)):
            lifted = are_lifted(UPPER, LOWER, MODULE, LOWER_MAKING, LOWER_MAKING, relation, "box", box, other)
            self.assertIs(lifted, told)
        # Of bounds alone: alike numbers.
        for first, second, told in (((3,), (3,), True), ((3,), (4,), False)):
            lifted = are_lifted(UPPER, LOWER, MODULE, LOWER_MAKING, LOWER_MAKING, ((), ()), "coin", first, second)
            self.assertIs(lifted, told)

    def test_refusals(self):
        relation = least_relation(BOX, WHOLE, BITS)
        for kind in (*ODD_THINGS, 0, "", "box", "none", ("shelf",), deep_thing(50000)):
            self.refuses(OutOfPlace, {}, are_lifted, SHELF, BOX, SHELF_MODULE, WHOLE, BITS, relation, kind, None, None)
        right, beside = (0, (0,)), (0, (0, 0))
        wrong = ((), (0,), (0, (0,), 0), (2, (0,)), (True, (0,)), (0, (4,)), (0, (0, 2)), (0, 0), [0, (0,)])
        for thing in (*ODD_THINGS, 0, "ab", *wrong):
            more = (SHELF, BOX, SHELF_MODULE, WHOLE, BITS, relation, "shelf")
            self.refuses(OutOfPlace, {}, are_lifted, *more, thing, beside)
            self.refuses(OutOfPlace, {}, are_lifted, *more, right, thing)
        # Each by its own making.
        self.refuses(OutOfPlace, {}, are_lifted, *more, beside, right)


class PaperTest(FieldsCase):
    def test_laid(self):
        for one, other in itertools.product((WHOLE, BITS, MARKED), repeat=2):
            paper = over_paper(SHELF, BOX, SHELF_MODULE, one, other)
            self.same_form(paper, ("over", same_paper(BOX, one, other)))
            self.assertIsNone(check_over(SHELF, BOX, SHELF_MODULE, one, other, paper))

    def test_told_apart(self):
        for other in (FULL, ODD):
            for module in (SHELF_MODULE, DIM_MODULE):
                fields = {"user": apart(BOX, WHOLE, other)}
                self.refuses(ToldApart, fields, over_paper, SHELF, BOX, module, WHOLE, other)

    def test_too_great(self):
        # Two kinds of wheels: 13 by 11 pairs of the one, 10 of the other.
        face = read_face("hidden v w\ngo w : w\nnew : w\nrun v : v\nzero : v")
        one, other = [
            read_making(
                face,
                f"shape v 9\nshape w 8 2\ngo give if same plus in 0 0 times 8 in 0 1 {many - 1} 0 plus in 0 0 1 , "
                f"if same plus in 0 0 times 8 in 0 1 {many - 1} 0 if same in 0 0 7 1 in 0 1\nnew give 0 , 0\n"
                "run give plus in 0 0 1\nzero give 0",
            )
            for many in (13, 11)
        ]
        upper = read_face("hidden a\nnew : a")
        module = (((2,),), (("give", (("number", 0),)),))
        self.refuses(TooGreat, {}, over_paper, upper, face, module, one, other)
        self.assertIs(is_same_over(upper, face, module, one, other), True)

    def bad(self, place, paper, one=WHOLE, other=BITS):
        self.refuses(BadPaper, {"place": place}, check_over, SHELF, BOX, SHELF_MODULE, one, other, paper)

    def test_no_paper(self):
        right = same_paper(BOX, WHOLE, BITS)
        wrong = (("over",), right, ("over", right, right), ["over", right], ("Over", right), (None, right))
        for thing in (*ODD_THINGS, 0, "over", (), *wrong, deep_thing(50000)):
            self.bad(None, thing)
        wrong = (("same",), list(right), ("same", right[1], 0), ("same", None), ("same", ()), ("same", right[1][0]))
        others = (("apart", apart(BOX, WHOLE, ODD)), ("over", right), (["same"], right[1]), deep_thing(50000))
        for thing in (*ODD_THINGS, 0, "same", (), *wrong, *others):
            self.bad(None, ("over", thing))

    def test_no_relation_that_is_kept(self):
        relation = least_relation(BOX, WHOLE, BITS)
        # Without a pair: "add" isn't kept; without all "new" alone.
        for at in range(4):
            self.bad(0, ("over", ("same", (relation[0][:at] + relation[0][at + 1 :],))))
        self.bad(1, ("over", ("same", ((),))))
        every = tuple(sorted(itertools.product([(n,) for n in range(4)], [(a, b) for a in range(2) for b in range(2)])))
        self.bad(2, ("over", ("same", (every,))))
        # A greater one that is kept is right.
        marked = least_relation(BOX, WHOLE, MARKED)[0]
        more = tuple(sorted({*marked, *[((n % 4,), (n, mark)) for n in range(8) for mark in range(2)]}))
        self.assertIsNone(check_over(SHELF, BOX, SHELF_MODULE, WHOLE, MARKED, ("over", ("same", (more,)))))
        # A user, even where it tells them apart, is none.
        self.bad(None, ("over", same_paper(BOX, WHOLE, ODD)), WHOLE, ODD)


class RefusedTest(FieldsCase):
    def test_in_order(self):
        nothing = {"part": None, "number": None}
        for thing in (*ODD_THINGS, 1, "ab", (), deep_thing(50000)):
            for call, many in ((come_over, 1), (is_same_over, 0), (are_lifted, 4), (over_paper, 0), (check_over, 1)):
                makings = 1 if call is come_over else 2
                more = [thing] * (makings + many)
                self.refuses(BadFace, nothing, call, thing, thing, thing, *more)
                self.refuses(BadFace, nothing, call, SHELF, thing, thing, *more)
                self.refuses(BadModule, nothing, call, SHELF, BOX, thing, *more)
                self.refuses(BadMaking, nothing, call, SHELF, BOX, SHELF_MODULE, *more)
                if makings == 2:
                    self.refuses(BadMaking, nothing, call, SHELF, BOX, SHELF_MODULE, WHOLE, *more[1:])
            self.refuses(OutOfPlace, {}, come_over, SHELF, BOX, SHELF_MODULE, WHOLE, thing)
        one, other = (WHOLE[0], ()), ((None,), WHOLE[1])
        for call, more in ((is_same_over, ()), (are_lifted, (None,) * 4), (over_paper, ()), (check_over, (None,))):
            fields = {"part": "bodies", "number": None}
            self.refuses(BadMaking, fields, call, SHELF, BOX, SHELF_MODULE, one, other, *more)
            fields = {"part": "shapes", "number": 0}
            self.refuses(BadMaking, fields, call, SHELF, BOX, SHELF_MODULE, WHOLE, other, *more)


if __name__ == "__main__":
    unittest.main()
