import itertools
import random
import unittest

from sameface.doing import done
from sameface.errors import BadFace, BadMaking, OutOfPlace, TooGreat
from sameface.facetext import read_face
from sameface.makings import is_making, worths_of
from sameface.makingtext import read_making
from sameface.related import apart, is_same, keeps, least_relation
from sameface.running import outcome
from sameface.samepaper import same_paper
from tests.helpers import (
    FACE,
    MAKING,
    ODD_THINGS,
    FieldsCase,
    Plainly,
    chance_face,
    chance_making,
    chance_user,
    deep_thing,
    with_more,
)

# A box counts up to 3 and on from 0: as one number, as two bits, as a number with a mark of no use.
BOX = read_face("hidden box\nadd box 3 : box\nnew : box\nsee box : 9")
WHOLE = read_making(BOX, "shape box 4\nadd give plus in 0 0 in 1 0\nnew give 0\nsee give in 0 0")
SUM = "plus plus in 0 1 times 2 in 0 0 in 1 0"
BITS = read_making(
    BOX, f"shape box 2 2\nadd give under 1 rest {SUM} 4 , {SUM}\nnew give 0 , 0\nsee give plus in 0 1 times 2 in 0 0"
)
MARKED = read_making(
    BOX, "shape box 8 2\nadd give plus in 0 0 in 1 0 , in 1 0\nnew give 4 , 0\nsee give rest in 0 0 4"
)
# Here the box holds 3 as well as it can: a further one is refused.
FULL = read_making(
    BOX,
    "shape box 4\nadd when under 3 plus in 0 0 in 1 0 refuse give plus in 0 0 in 1 0\nnew give 0\nsee give in 0 0",
)
# Here 3 is seen as 4.
ODD = read_making(
    BOX, "shape box 4\nadd give plus in 0 0 in 1 0\nnew give 0\nsee give plus in 0 0 under 2 in 0 0"
)

# "go" and "run" count by as many as there are; "ask" is the first deed, and tells of itself.
WHEELS = read_face("hidden a b\nask : 2\ngo a : a\nnew : a\nrun b : b\nzero : b")


def wheels(a, b, ask=0):
    """A making in which a goes round by one of these rows, b by a number."""
    shape, go, new = a
    return read_making(
        WHEELS,
        f"shape a {shape}\nshape b {b}\nask give {ask}\ngo {go}\nnew give {new}\n"
        "run give plus in 0 0 1\nzero give 0",
    )


THIRTEEN = (
    "4 4",
    "when same in 0 0 3 give 0 , 0 when same in 0 1 3 give plus in 0 0 1 , 0 give in 0 0 , plus in 0 1 1",
    "0 , 0",
)
TEN = ("2 5", "when same in 0 1 4 give plus in 0 0 1 , 0 give in 0 0 , plus in 0 1 1", "0 , 0")


class SameTest(FieldsCase):
    def same(self, face, one, other, relation):
        self.same_form(least_relation(face, one, other), relation)
        self.assertIs(is_same(face, one, other), True)
        self.assertIsNone(apart(face, one, other))
        for deed in face[1]:
            self.assertIs(keeps(face, one, other, relation, deed[0]), True)

    def test_by_unlike_shapes(self):
        bits = tuple(((number,), (number // 2, number % 2)) for number in range(4))
        self.same(BOX, WHOLE, BITS, (bits,))
        self.same(BOX, BITS, WHOLE, (tuple((second, first) for first, second in bits),))
        self.same(BOX, WHOLE, WHOLE, (tuple(((number,), (number,)) for number in range(4)),))

    def test_one_beside_several(self):
        relation = least_relation(BOX, WHOLE, MARKED)
        self.same(BOX, WHOLE, MARKED, relation)
        self.assertEqual(relation, (tuple(((n,), (m, mark)) for n in range(4) for m in (n, n + 4) for mark in (0, 1)),))

    def test_least_relation_of_none(self):
        face = read_face("hidden a b\nback a b : a\nfrom b : a\nnew 2 : a\nsee 2 : 3")
        one = read_making(face, "shape a 2\nshape b 2\nback give 1\nfrom give 1\nnew refuse\nsee give in 0 0")
        other = read_making(face, "shape a 9\nshape b 3\nback refuse\nfrom give 0\nnew refuse\nsee give in 0 0")
        self.same(face, one, other, ((), ()))

    def test_refused_by_both(self):
        # The same, though the one goes on where both refuse: neither comes there.
        face = read_face("hidden a\ngo a : a\nnew : a\nsee a : 5")
        one = read_making(face, "shape a 3\ngo when in 0 0 refuse give 1\nnew give 0\nsee give in 0 0")
        go = "when under 3 in 0 0 give 4 when in 0 0 refuse give 1"
        other = read_making(face, f"shape a 5\ngo {go}\nnew give 0\nsee give in 0 0")
        self.same(face, one, other, ((((0,), (0,)), ((1,), (1,))),))

    def test_two_hidden_kinds(self):
        self.same(FACE, MAKING, MAKING, (tuple(((n, m), (n, m)) for n in range(4) for m in range(3)), (((1,), (1,)),)))

    def test_users_dont_tell_them_apart(self):
        rng = random.Random(32)
        for one, other in ((WHOLE, BITS), (WHOLE, MARKED), (BITS, MARKED)):
            for step in range(100):
                user = chance_user(rng, BOX, 20)
                if user is not None:
                    first, second = outcome(BOX, one, user), outcome(BOX, other, user)
                    self.assertEqual(first is None, second is None)
                    if isinstance(first, int):
                        self.assertEqual(first, second)


class ApartTest(FieldsCase):
    def apart_by(self, face, one, other, user):
        for first, second in ((one, other), (other, one)):
            self.same_form(apart(face, first, second), user)
            self.assertIs(is_same(face, first, second), False)
            relation = least_relation(face, first, second)
            kept = [keeps(face, first, second, relation, deed[0]) for deed in face[1]]
            self.assertIn(False, kept)

    def test_refused_by_just_one_with_nothing_handed(self):
        face = read_face("hidden a\nnew : a\nold : a\nsee : 3")
        one = read_making(face, "shape a 2\nnew give 0\nold give 1\nsee give 0")
        other = read_making(face, "shape a 2\nnew refuse\nold refuse\nsee refuse")
        self.apart_by(face, one, other, (("new", ()),))
        self.same_form(least_relation(face, one, other), ((),))
        last = read_making(face, "shape a 2\nnew give 0\nold give 1\nsee refuse")
        self.apart_by(face, one, last, (("see", ()),))

    def test_refused_by_just_one_far_behind(self):
        # 1 + 2 doesn't fit nor does 2 + 2: the first way of level 2 on which the full one refuses.
        self.apart_by(BOX, WHOLE, FULL, (("new", ()), ("add", (0, 2)), ("add", (1, 2))))
        one = wheels(THIRTEEN, 4)
        stops = ("4 4", THIRTEEN[1].replace("when same in 0 0 3 give 0 , 0", "when same in 0 0 3 refuse"), "0 , 0")
        rows = [("new", ())] + [("go", (row,)) for row in range(13)]
        self.apart_by(WHEELS, one, wheels(stops, 4), tuple(rows))

    def test_two_numbers(self):
        self.apart_by(BOX, WHOLE, ODD, (("new", ()), ("add", (0, 1)), ("add", (1, 2)), ("see", (2,))))

    def test_two_numbers_with_nothing_handed(self):
        self.apart_by(WHEELS, wheels(TEN, 4, 0), wheels(THIRTEEN, 4, 1), (("ask", ()),))
        face = read_face("hidden a\nask 3 2 : 4\nnew : a")
        one = read_making(face, "shape a 2\nask give in 0 0\nnew give 0")
        other = read_making(face, "shape a 2\nask give if same in 0 0 2 plus 2 in 1 0 in 0 0\nnew give 0")
        self.apart_by(face, one, other, (("ask", (2, 1)),))

    def test_the_least_level_ahead_of_the_least_name(self):
        # "ask" tells them apart at level 2, "see" at level 1.
        face = read_face("hidden a\nask a : 3\nnew : a\nsee a : 3\nup a : a")
        one = read_making(face, "shape a 3\nask give 0\nnew give 0\nsee give 0\nup give 1")
        other = read_making(face, "shape a 3\nask give in 0 0\nnew give 0\nsee give 1\nup give 1")
        self.apart_by(face, one, other, (("new", ()), ("see", (0,))))

    def test_a_hidden_kind_is_seen_by_refusals_alone(self):
        face = read_face("hidden a\nnew : a\nup a : a")
        one = read_making(face, "shape a 3\nnew give 0\nup give plus 1 in 0 0")
        other = read_making(face, "shape a 2\nnew give 1\nup give in 0 0")
        self.assertIs(is_same(face, one, other), True)
        self.same_form(least_relation(face, one, other), (tuple(((n,), (1,)) for n in range(3)),))

    def test_pairs_numbers_and_rows_numbers(self):
        # Of two pairs each of a and b, of one level: rows are ordered by ways, those of both kinds together.
        face = read_face("hidden a b\nask a b 2 : 2\nba b : a\nna : a\nnb : b\nup a : b")
        text = "shape a 3\nshape b 3\nask give {}\nba give 1\nna give 0\nnb give 0\nup give 1"
        one = read_making(face, text.format("0"))
        other = read_making(face, text.format("times in 2 0 times in 0 0 in 1 0"))
        user = (("na", ()), ("nb", ()), ("ba", (1,)), ("up", (0,)), ("ask", (2, 3, 1)))
        self.apart_by(face, one, other, user)

    def test_as_the_document_finds_it(self):
        rng = random.Random(33)
        seen = set()
        for step in range(120):
            face = chance_face(rng)
            one = chance_making(rng, face)
            other = with_more(rng, face, one, 0) if step % 3 == 0 else chance_making(rng, face)
            if step % 3 == 2:
                # One body alone is another one.
                at = rng.randrange(len(face[1]))
                other = (one[0], (*one[1][:at], chance_making(rng, face, [one[0][0]])[1][at], *one[1][at + 1 :]))
            if not is_making(face, other):
                continue
            plainly = Plainly(face, one, other)
            relation = tuple(tuple(sorted(plainly.things[kind])) for kind in face[0])
            user = plainly.user(min(plainly.apart)[1]) if plainly.apart else None
            seen.add(len(user or ()))
            self.same_form(least_relation(face, one, other), relation)
            self.same_form(apart(face, one, other), user)
            self.assertIs(is_same(face, one, other), user is None)
        self.assertLessEqual({0, 1, 2, 3}, seen)


class TooGreatTest(FieldsCase):
    def test_a_hundred_and_fifty_pairs(self):
        one, other = wheels(THIRTEEN, 4), wheels(TEN, 5)
        relation = least_relation(WHEELS, one, other)
        self.assertEqual([len(pairs) for pairs in relation], [130, 20])
        self.assertEqual(relation[1], tuple(((n,), (m,)) for n in range(4) for m in range(5)))
        self.assertIs(is_same(WHEELS, one, other), True)
        self.assertIsNone(apart(WHEELS, one, other))
        self.assertEqual(apart(WHEELS, one, wheels(TEN, 5, 1)), (("ask", ()),))

    def test_more_pairs(self):
        one = wheels(THIRTEEN, 3)
        for ask in (0, 1):
            for b in (7, 8):
                for call in (least_relation, is_same, apart, same_paper):
                    self.refuses(TooGreat, {}, call, WHEELS, one, wheels(TEN, b, ask))
        self.refuses(TooGreat, {}, apart, WHEELS, wheels(TEN, 7), one)

    def test_no_face_and_no_making_go_ahead(self):
        one, other = wheels(THIRTEEN, 3), wheels(TEN, 7)
        for call in (least_relation, is_same, apart, same_paper):
            self.refuses(BadFace, {}, call, None, one, other)
            self.refuses(BadMaking, {}, call, WHEELS, one, None)

    def test_kept_whatever_is_too_great(self):
        one, other = wheels(THIRTEEN, 3), wheels(TEN, 7)
        everything = tuple(
            tuple(itertools.product(worths_of(WHEELS, one, kind), worths_of(WHEELS, other, kind))) for kind in "ab"
        )
        for deed in WHEELS[1]:
            self.assertIs(keeps(WHEELS, one, other, everything, deed[0]), True)

    def test_a_deed_of_two_by_many_pairs(self):
        face = read_face("hidden a\nadd a a 9 : a\nnew : a\nup a : a")
        rows = "\nadd give in 0 0 , in 1 1\nnew give 0 , 0\nup "
        one = read_making(face, f"shape a 4 4{rows}{THIRTEEN[1]}")
        other = read_making(face, f"shape a 4 4{rows}give plus in 0 0 1 , 0")
        relation = least_relation(face, one, other)
        self.assertLessEqual(len(relation[0]), 150)
        self.assertEqual(keeps(face, one, other, relation, "add"), is_same(face, one, other))


def kept_plainly(face, one, other, relation, name):
    """Whether a deed keeps a relation, by all that it can be handed."""
    related = dict(zip(face[0], relation))
    takes, gives = next(deed[1:] for deed in face[1] if deed[0] == name)
    choices = [related[kind] if kind in related else [(number, number) for number in range(kind)] for kind in takes]
    for handed in itertools.product(*choices):
        first = done(face, one, name, tuple(pair[0] for pair in handed))
        second = done(face, other, name, tuple(pair[1] for pair in handed))
        if gives in related and first is not None and second is not None:
            if (first, second) not in related[gives]:
                return False
        elif first != second:
            return False
    return True


class KeepsTest(FieldsCase):
    def kept(self, told, relation, name, one=WHOLE, other=WHOLE):
        self.assertIs(keeps(BOX, one, other, relation, name), told, (relation, name))

    def test_empty_ones(self):
        # Nothing related can be handed, but "new" takes nothing, and gives nothing related.
        self.kept(True, ((),), "add")
        self.kept(True, ((),), "see")
        self.kept(False, ((),), "new")

    def test_lesser_ones(self):
        self.kept(True, ((((0,), (0,)),),), "new")
        self.kept(True, ((((0,), (0,)),),), "see")
        self.kept(False, ((((0,), (0,)),),), "add")

    def test_greater_ones(self):
        least = tuple(((number,), (number,)) for number in range(4))
        self.kept(False, ((((0,), (0,)), ((0,), (1,)), *least[1:]),), "see")
        self.kept(False, ((((0,), (0,)), ((0,), (1,)), *least[1:]),), "add")
        everything = tuple(((n,), (m,)) for n in range(4) for m in range(4))
        self.kept(True, (everything,), "add")
        self.kept(True, (everything,), "new")
        self.kept(False, (everything,), "see")
        by_twos = tuple(((n,), (m,)) for n in range(4) for m in range(4) if n % 2 == m % 2)
        self.kept(True, (by_twos,), "add")

    def test_of_worths_that_arent_come_to(self):
        # MARKED comes to all of its worths, those of a larger shape to the first four alone.
        large = read_making(
            BOX, "shape box 9\nadd give rest plus in 0 0 in 1 0 4\nnew give 0\nsee give rest in 0 0 5"
        )
        least = tuple(((number,), (number,)) for number in range(4))
        self.assertEqual(least_relation(BOX, WHOLE, large), (least,))
        more = (((0,), (0,)), ((0,), (8,)), *least[1:])
        self.kept(True, (more,), "add", other=large)
        self.kept(False, (more,), "see", other=large)
        more = (*least[:3], ((3,), (3,)), ((3,), (8,)))
        self.kept(False, (more,), "add", other=large)
        self.kept(True, (more,), "see", other=large)

    def test_refused_by_just_one_and_by_both(self):
        least = tuple(((number,), (number,)) for number in range(4))
        self.kept(False, (least,), "add", other=FULL)
        self.kept(True, (least,), "add", one=FULL, other=FULL)
        self.kept(True, (least[:1] + least[3:],), "see", one=FULL, other=FULL)

    def test_as_the_document_says(self):
        rng = random.Random(31)
        for step in range(150):
            face = chance_face(rng)
            one = chance_making(rng, face)
            other = chance_making(rng, face) if step % 2 else one
            relation = []
            for kind in face[0]:
                pairs = itertools.product(worths_of(face, one, kind), worths_of(face, other, kind))
                much = rng.random()
                relation.append(tuple(pair for pair in pairs if rng.random() < much * much))
            for name, takes, gives in face[1]:
                told = kept_plainly(face, one, other, relation, name)
                self.assertIs(keeps(face, one, other, tuple(relation), name), told)


class RefusedTest(FieldsCase):
    def test_no_face_then_no_making(self):
        nothing = {"part": None, "number": None}
        for thing in (*ODD_THINGS, 1, "ab", (), deep_thing(50000)):
            for call in (least_relation, is_same, apart):
                self.refuses(BadFace, nothing, call, thing, thing, thing)
                self.refuses(BadMaking, nothing, call, FACE, thing, MAKING)
                self.refuses(BadMaking, nothing, call, FACE, MAKING, thing)
            self.refuses(BadFace, nothing, keeps, thing, thing, thing, thing, thing)
            self.refuses(BadMaking, nothing, keeps, FACE, thing, thing, thing, thing)
            self.refuses(BadMaking, nothing, keeps, FACE, MAKING, thing, thing, thing)

    def test_the_one_making_ahead_of_the_other(self):
        bad = (MAKING[0], MAKING[1][1:])
        for call, more in ((least_relation, ()), (is_same, ()), (apart, ()), (keeps, (None, None))):
            self.refuses(BadMaking, {"part": "bodies", "number": None}, call, FACE, bad, None, *more)
            self.refuses(BadMaking, {"part": None, "number": None}, call, FACE, None, bad, *more)

    def test_no_relation(self):
        good = ((0, 0), (0, 0))
        other = ((0, 1), (0, 0))
        pairs = (
            *ODD_THINGS,
            1,
            "ab",
            [good],
            (None,),
            (1,),
            ("ab",),
            good,
            (list(good),),
            ((),),
            (good[:1],),
            ((*good, good[0]),),
            (good, good),
            (other, good),
            (good, other, other),
            (good, other, good),
            (((0, 0), (0, 1)), good),
            (((0, 0), (0,)),),
            (((0,), (0, 0)),),
            (((4, 0), (0, 0)),),
            (((0, 0), (0, 3)),),
            (((True, 0), (0, 0)),),
            (((0, 0), (0, False)),),
            (([0, 0], (0, 0)),),
            (((0, 0), [0, 0]),),
            (((0, 0), 0),),
            ((deep_thing(50000), (0, 0)),),
        )
        for thing in pairs:
            for name in ("add", "none", None):
                self.refuses(OutOfPlace, {}, keeps, FACE, MAKING, MAKING, (thing, ()), name)
        for thing in (*ODD_THINGS, 1, "ab", (), ((),), ((), (), ()), [(), ()], ((), [])):
            for name in ("add", "none", None):
                self.refuses(OutOfPlace, {}, keeps, FACE, MAKING, MAKING, thing, name)
        self.assertIs(keeps(FACE, MAKING, MAKING, ((good, other), ()), "key"), False)
        self.assertIs(keeps(FACE, MAKING, MAKING, ((good, other), (((1,), (1,)),)), "key"), True)

    def test_worths_by_the_one_and_by_the_other(self):
        # Of WHOLE worths are of one field, of BITS they are of two.
        self.assertIs(keeps(BOX, WHOLE, BITS, ((((0,), (0, 0)),),), "new"), True)
        for pair in (((0, 0), (0,)), ((0,), (0,)), ((0, 0), (0, 0)), ((4,), (0, 0)), ((0,), (0, 2))):
            self.refuses(OutOfPlace, {}, keeps, BOX, WHOLE, BITS, ((pair,),), "new")

    def test_no_deeds_name(self):
        for name in (*ODD_THINGS, "", "bag", "adds", 0, ("add",), ["add"], deep_thing(50000)):
            self.refuses(OutOfPlace, {}, keeps, FACE, MAKING, MAKING, ((), ()), name)


if __name__ == "__main__":
    unittest.main()
