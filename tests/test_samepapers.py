import itertools
import random
import unittest

from sameface.errors import BadFace, BadMaking, BadPaper, TooGreat
from sameface.facetext import read_face
from sameface.makings import is_making, worths_of
from sameface.makingtext import read_making
from sameface.related import apart, least_relation
from sameface.samecheck import check_paper
from sameface.samepaper import same_paper
from tests.helpers import FACE, MAKING, ODD_THINGS, FieldsCase, chance_face, chance_making, deep_thing, with_more
from tests.test_related import BITS, BOX, FULL, MARKED, ODD, TEN, THIRTEEN, WHEELS, WHOLE, wheels

NEW = ("new", ())


class LaidTest(FieldsCase):
    def test_same(self):
        self.same_form(same_paper(BOX, WHOLE, BITS), ("same", least_relation(BOX, WHOLE, BITS)))
        self.same_form(same_paper(BOX, MARKED, BITS), ("same", least_relation(BOX, MARKED, BITS)))

    def test_apart(self):
        self.same_form(same_paper(BOX, WHOLE, FULL), ("apart", apart(BOX, WHOLE, FULL)))
        self.same_form(same_paper(BOX, WHOLE, ODD), ("apart", apart(BOX, WHOLE, ODD)))

    def test_what_is_laid_is_let_by(self):
        rng = random.Random(35)
        words = set()
        for step in range(120):
            face = chance_face(rng)
            one = chance_making(rng, face)
            other = with_more(rng, face, one, 0) if step % 2 else chance_making(rng, face)
            if is_making(face, other):
                paper = same_paper(face, one, other)
                words.add(paper[0])
                self.assertIsNone(check_paper(face, one, other, paper))
        self.assertEqual(words, {"same", "apart"})

    def test_too_great(self):
        self.refuses(TooGreat, {}, same_paper, WHEELS, wheels(THIRTEEN, 3), wheels(TEN, 7))

    def test_no_face_then_no_making(self):
        nothing = {"part": None, "number": None}
        for call, more in ((same_paper, ()), (check_paper, (None,)), (check_paper, (("same", ((), ())),))):
            for thing in (*ODD_THINGS, 1, "ab", (), deep_thing(50000)):
                self.refuses(BadFace, nothing, call, thing, thing, thing, *more)
                self.refuses(BadMaking, nothing, call, FACE, thing, MAKING, *more)
                self.refuses(BadMaking, nothing, call, FACE, MAKING, thing, *more)
            bad = (MAKING[0], MAKING[1][1:])
            self.refuses(BadMaking, {"part": "bodies", "number": None}, call, FACE, bad, None, *more)


class CheckTest(FieldsCase):
    def bad(self, place, paper, one=WHOLE, other=BITS, face=BOX):
        self.refuses(BadPaper, {"place": place}, check_paper, face, one, other, paper)

    def let_by(self, paper, one=WHOLE, other=BITS, face=BOX):
        self.assertIsNone(check_paper(face, one, other, paper))

    def test_no_pair(self):
        relation = least_relation(BOX, WHOLE, BITS)
        papers = (*ODD_THINGS, 1, "ab", (), ("same",), ("same", relation, ()), ["same", relation], deep_thing(50000))
        for paper in (*papers, ("apart",), ["apart", (NEW,)], ("apart", (NEW,), ())):
            self.bad(None, paper)

    def test_other_words(self):
        relation = least_relation(BOX, WHOLE, BITS)
        for word in (*ODD_THINGS, 1, "", "Same", "other", "over", ("same",), deep_thing(50000)):
            self.bad(None, (word, relation))
            self.bad(None, (word, (NEW,)))
        self.bad(None, ("apart", relation))
        self.bad(None, ("same", (NEW,)))

    def test_no_relation(self):
        pair = ((0,), (0, 0))
        more = ((0,), (0, 1))
        told = (((pair,), ()), ([pair],), [(pair,)], ((pair, pair),), ((more, pair),), ((((0, 0), (0,)),),))
        told = (*told, ((pair, 1),))
        for relation in (*ODD_THINGS, 1, "ab", (), *told, (((((4,), (0, 0))),),), ((((0,), (0, True)),),)):
            self.bad(None, ("same", relation))

    def test_no_user(self):
        users = ((), [NEW], (NEW,) * 201, (("none", ()),), (NEW, ("add", (1, 0))), (NEW, ("see", (True,))), (NEW, None))
        for user in (*ODD_THINGS, 1, "ab", *users, deep_thing(50000)):
            self.bad(None, ("apart", user))
            self.bad(None, ("apart", user), other=FULL)

    def test_the_first_deed_that_doesnt_keep_it(self):
        least = least_relation(BOX, WHOLE, BITS)[0]
        # Deeds are "add", "new", "see".
        self.bad(0, ("same", (least[:2],)))
        self.bad(0, ("same", (least[1:],)))
        self.bad(1, ("same", ((),)))
        everything = tuple(itertools.product(worths_of(BOX, WHOLE, "box"), worths_of(BOX, BITS, "box")))
        self.bad(2, ("same", (everything,)))
        for other, number in ((FULL, 0), (ODD, 2)):
            self.bad(number, ("same", least_relation(BOX, WHOLE, other)), other=other)

    def test_a_deed_that_takes_nothing_related(self):
        face = read_face("hidden a b\nask a b : 3\nna : a\nsee 3 : 2")
        one = read_making(face, "shape a 2\nshape b 2\nask give 1\nna give 0\nsee give 0")
        other = read_making(face, "shape a 2\nshape b 2\nask give 2\nna give 0\nsee give 0")
        pair = ((0,), (0,))
        self.let_by(("same", ((pair,), ())), one, other, face)
        self.bad(0, ("same", ((pair,), (pair,))), one, other, face)
        self.bad(1, ("same", ((), (pair,))), one, other, face)
        other = read_making(face, "shape a 2\nshape b 2\nask give 2\nna give 0\nsee give under 1 in 0 0")
        self.bad(2, ("same", ((pair,), ())), one, other, face)

    def test_other_relations_that_all_deeds_keep(self):
        # Worths that aren't come to may be related, and pairs that don't come together.
        large = read_making(
            BOX, "shape box 9\nadd give rest plus in 0 0 in 1 0 4\nnew give 0\nsee give rest in 0 0 4"
        )
        least = least_relation(BOX, WHOLE, large)[0]
        more = tuple(sorted([*least, ((0,), (8,)), ((1,), (5,))]))
        self.let_by(("same", (more,)), WHOLE, large)
        self.let_by(("same", (least,)), WHOLE, large)
        face = read_face("hidden a\nnew : a\nup a : a")
        one = read_making(face, "shape a 4\nnew give 0\nup give plus 2 in 0 0")
        self.assertEqual(least_relation(face, one, one), ((((0,), (0,)), ((2,), (2,))),))
        pairs = tuple(itertools.product(worths_of(face, one, "a"), repeat=2))
        self.let_by(("same", (pairs,)), one, one, face)

    def test_a_great_relation_is_no_hindrance(self):
        one, other = wheels(THIRTEEN, 3), wheels(TEN, 7)
        everything = tuple(
            tuple(itertools.product(worths_of(WHEELS, one, kind), worths_of(WHEELS, other, kind))) for kind in "ab"
        )
        self.let_by(("same", everything), one, other, WHEELS)
        self.bad(0, ("same", everything), one, wheels(TEN, 7, 1), WHEELS)
        self.let_by(("apart", (("new", ()), ("ask", ()))), one, wheels(TEN, 7, 1), WHEELS)

    def test_users_that_dont_tell_apart(self):
        self.bad(1, ("apart", (NEW,)))
        self.bad(1, ("apart", (NEW,)), other=FULL)
        self.bad(3, ("apart", (NEW, ("add", (0, 2)), ("see", (1,)))), other=FULL)
        # A number that is told on the way counts for nothing: the last row's does.
        told = (NEW, ("add", (0, 2)), ("add", (1, 1)), ("see", (2,)))
        self.let_by(("apart", told), other=ODD)
        self.bad(5, ("apart", (*told, NEW)), other=ODD)
        self.bad(5, ("apart", (*told, ("see", (0,)))), other=ODD)
        self.bad(200, ("apart", (NEW,) * 200), other=ODD)

    def test_refused_by_both(self):
        face = read_face("hidden a\ngo 2 : a\nno : a")
        one = read_making(face, "shape a 2\ngo when in 0 0 refuse give 0\nno refuse")
        other = read_making(face, "shape a 2\ngo give 0\nno refuse")
        # The one refuses row 1, both refuse the user.
        self.bad(2, ("apart", (("go", (1,)), ("no", ()))), one, other, face)
        self.let_by(("apart", (("go", (0,)), ("go", (1,)), ("go", (0,)))), one, other, face)

    def test_any_user_that_tells_apart(self):
        add = ("add", (0, 2))
        for user in ((NEW, add, ("add", (1, 2)), NEW), (NEW, add, ("add", (1, 1)), ("add", (2, 1)), ("see", (3,)))):
            self.let_by(("apart", user), other=FULL)
            self.let_by(("apart", user), one=FULL, other=BITS)
        self.let_by(("apart", (NEW, add, ("add", (1, 1)), NEW, ("see", (2,)))), one=ODD, other=MARKED)


if __name__ == "__main__":
    unittest.main()
