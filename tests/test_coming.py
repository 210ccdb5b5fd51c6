import random
import unittest

from sameface.coming import come_to, first_user, level_of, way_of
from sameface.errors import BadFace, BadMaking, OutOfPlace
from sameface.facetext import read_face
from sameface.makingtext import read_making
from sameface.running import outcome
from sameface.users import is_user
from tests.helpers import FACE, MAKING, ODD_THINGS, FieldsCase, Plainly, chance_face, chance_making, deep_thing

# Each hidden kind is come to from the other one, too.
TWO = read_face("hidden a b\nab a : b\nba b : a\nna : a\nnb 2 : b\nsee a : 9\ntwo a a : a")
TWO_MAKING = read_making(
    TWO,
    "shape a 5\nshape b 3\nab give in 0 0\nba give plus in 0 0 3\nna give 1\nnb give times 2 in 0 0\n"
    "see give in 0 0\ntwo give plus in 0 0 in 1 0",
)

# (worth, level, way, first user), by numbers.
TWO_COME = {
    "a": (
        ((1,), 0, ("na", ()), (("na", ()),)),
        ((3,), 1, ("ba", (0,)), (("nb", (0,)), ("ba", (0,)))),
        ((0,), 1, ("ba", (1,)), (("nb", (1,)), ("ba", (0,)))),
        ((2,), 1, ("two", (0, 0)), (("na", ()), ("two", (0, 0)))),
        ((4,), 2, ("ba", (2,)), (("na", ()), ("ab", (0,)), ("ba", (1,)))),
    ),
    "b": (
        ((0,), 0, ("nb", (0,)), (("nb", (0,)),)),
        ((2,), 0, ("nb", (1,)), (("nb", (1,)),)),
        ((1,), 1, ("ab", (0,)), (("na", ()), ("ab", (0,)))),
    ),
}


class ComeTest(FieldsCase):
    def come(self, face, making, kind, rows):
        """All that is told of a kind is as these rows have it."""
        self.same_form(come_to(face, making, kind), [worth for worth, level, way, user in rows])
        for worth, level, way, user in rows:
            self.same_form(level_of(face, making, kind, worth), level)
            self.same_form(way_of(face, making, kind, worth), way)
            self.same_form(first_user(face, making, kind, worth), user)

    def test_both_kinds_together(self):
        for kind, rows in TWO_COME.items():
            self.come(TWO, TWO_MAKING, kind, rows)

    def test_one_worth_by_several_ways(self):
        # (3,) comes at level 1 by "all", handed 1 and 2 or 2 and 1, and by "up": the least way counts.
        face = read_face("hidden a\nall a a : a\nnew 3 : a\nup a : a")
        making = read_making(face, "shape a 9\nall give plus in 0 0 in 1 0\nnew give in 0 0\nup give plus 2 in 0 0")
        rows = [((number,), 0, ("new", (number,))) for number in range(3)]
        rows.append(((3,), 1, ("all", (1, 2))))
        rows.append(((4,), 1, ("all", (2, 2))))
        rows.append(((5,), 2, ("all", (1, 4))))
        rows.append(((6,), 2, ("all", (2, 4))))
        rows.append(((7,), 2, ("all", (3, 4))))
        rows.append(((8,), 2, ("all", (4, 4))))
        told = [(worth, level_of(face, making, "a", worth), way_of(face, making, "a", worth)) for worth, *more in rows]
        self.same_form(told, rows)
        self.same_form(come_to(face, making, "a"), [row[0] for row in rows])

    def test_the_least_level_counts_not_the_least_name(self):
        face = read_face("hidden a\nall a : a\nnew : a\nzero : a")
        making = read_making(face, "shape a 4\nall give plus in 0 0 1\nnew give 0\nzero give 1")
        self.come(
            face,
            making,
            "a",
            [
                ((0,), 0, ("new", ()), (("new", ()),)),
                ((1,), 0, ("zero", ()), (("zero", ()),)),
                ((2,), 1, ("all", (1,)), (("zero", ()), ("all", (0,)))),
                ((3,), 2, ("all", (2,)), (("zero", ()), ("all", (0,)), ("all", (1,)))),
            ],
        )

    def test_none_of_a_level_for_another_one_of_it(self):
        # "go" gives (2,) of (1,), which "fix" gives at the same level, by a lesser name: it comes a level later.
        face = read_face("hidden a\nfix a : a\ngo a : a\nnew : a")
        making = read_making(
            face, "shape a 3\nfix give if same in 0 0 0 1 in 0 0\ngo give if same in 0 0 1 2 in 0 0\nnew give 0"
        )
        self.come(
            face,
            making,
            "a",
            [
                ((0,), 0, ("new", ()), (("new", ()),)),
                ((1,), 1, ("fix", (0,)), (("new", ()), ("fix", (0,)))),
                ((2,), 2, ("go", (1,)), (("new", ()), ("fix", (0,)), ("go", (1,)))),
            ],
        )

    def test_numbers_are_compared_as_tuples(self):
        # Eleven worths of level 0: number 10 stands behind 9, not behind 1.
        face = read_face("hidden a b\nma a : b\nna 9 2 : a")
        making = read_making(
            face,
            "shape a 4 4\nshape b 4 4\nma when in 0 0 refuse give in 0 1 , 3\n"
            "na give plus under 2 in 0 0 under 5 in 0 0 , plus in 0 0 in 1 0",
        )
        worths = come_to(face, making, "a")
        ways = [way_of(face, making, "a", worth) for worth in worths]
        self.assertGreater(len(worths), 10)
        self.assertEqual(ways, sorted(ways))
        self.assertEqual([way_of(face, making, "b", worth)[1][0] for worth in come_to(face, making, "b")], [0, 1, 2, 3])

    def test_plain_numbers_in_ways(self):
        face = read_face("hidden a\nadd 3 a 3 : a\nnew : a")
        making = read_making(face, "shape a 2 5\nadd give in 0 0 , plus in 2 0 in 1 1\nnew give 0 , 0")
        user = (("new", ()), ("add", (0, 0, 1)), ("add", (1, 1, 2)))
        self.assertEqual(way_of(face, making, "a", (1, 3)), ("add", (1, 1, 2)))
        self.assertEqual(first_user(face, making, "a", (1, 3)), user)
        self.assertEqual(way_of(face, making, "a", (0, 2)), ("add", (0, 0, 2)))
        # (0, 0) is come to by "new"; "add" brings it back by (2, ..), too: nothing of it is told.
        self.assertEqual(level_of(face, making, "a", (0, 0)), 0)

    def test_rows_of_one_level_by_their_ways(self):
        # (3,) wants (1,) of a and (2,) of b, both of level 1: "ab", which gives that of b, is less than "ba".
        face = read_face("hidden a b\nab a : b\nba b : a\nna : a\nnb : b\nzip a b : a")
        making = read_making(
            face,
            "shape a 4\nshape b 4\nab give plus in 0 0 2\nba give under in 0 0 1\nna give 0\nnb give 0\n"
            "zip when times in 0 0 in 1 0 give 3 give 0",
        )
        self.come(
            face,
            making,
            "a",
            [
                ((0,), 0, ("na", ()), (("na", ()),)),
                ((1,), 1, ("ba", (0,)), (("nb", ()), ("ba", (0,)))),
                (
                    (3,),
                    2,
                    ("zip", (1, 1)),
                    (("na", ()), ("nb", ()), ("ab", (0,)), ("ba", (1,)), ("zip", (3, 2))),
                ),
            ],
        )

    def test_each_row_once(self):
        face = read_face("hidden a\nnew : a\ntwo a a : a")
        making = read_making(face, "shape a 8 2\nnew give 1 , 0\ntwo give plus in 0 0 in 1 0 , 1")
        self.same_form(
            first_user(face, making, "a", (4, 1)),
            (("new", ()), ("two", (0, 0)), ("two", (1, 1))),
        )
        self.same_form(
            first_user(face, making, "a", (3, 1)),
            (("new", ()), ("two", (0, 0)), ("two", (0, 1))),
        )

    def test_nothing_is_come_to(self):
        face = read_face("hidden a b\nback a : a\nfrom b : a\nnew 2 : a\nsee a b : 3")
        making = read_making(face, "shape a 2\nshape b 2\nback give 1\nfrom give 1\nnew refuse\nsee give 1")
        for kind in ("a", "b"):
            self.same_form(come_to(face, making, kind), [])
            for call in (level_of, way_of, first_user):
                for worth in ((0,), (1,)):
                    self.refuses(OutOfPlace, {}, call, face, making, kind, worth)

    def test_one_kind_alone(self):
        face = read_face("hidden a b\nmix a b : b\nnew : a\nup a : a")
        making = read_making(face, "shape a 3\nshape b 2\nmix give 1\nnew give 0\nup when in 0 0 refuse give 2")
        self.same_form(come_to(face, making, "a"), [(0,), (2,)])
        self.same_form(come_to(face, making, "b"), [])

    def test_as_the_document_finds_it(self):
        rng = random.Random(24)
        for step in range(120):
            face = chance_face(rng)
            making = chance_making(rng, face)
            plainly = Plainly(face, making)
            for kind in face[0]:
                ways = plainly.ways[kind]
                users = [plainly.user(way) for way in ways]
                rows = list(zip(plainly.worths(kind), plainly.levels[kind], ways, users))
                self.come(face, making, kind, rows)

    def test_the_first_user_comes_to_it(self):
        rng = random.Random(25)
        for step in range(120):
            face = chance_face(rng)
            making = chance_making(rng, face)
            for kind in face[0]:
                for worth in come_to(face, making, kind):
                    user = first_user(face, making, kind, worth)
                    self.assertIs(is_user(face, user), True)
                    self.same_form(outcome(face, making, user), worth)


class AskedTest(FieldsCase):
    def test_told_lists_are_the_askers_own(self):
        first = come_to(TWO, TWO_MAKING, "a")
        told = come_to(TWO, TWO_MAKING, "a")
        told.pop()
        told[0] = (9,)
        self.assertEqual(come_to(TWO, TWO_MAKING, "a"), first)

    def test_no_face_then_no_making(self):
        for thing in (*ODD_THINGS, 1, "ab", (), deep_thing(50000)):
            self.refuses(BadFace, {"part": None, "number": None}, come_to, thing, thing, thing)
            self.refuses(BadMaking, {"part": None, "number": None}, come_to, FACE, thing, thing)
            for call in (level_of, way_of, first_user):
                self.refuses(BadFace, {"part": None, "number": None}, call, thing, MAKING, "bag", (0, 0))
                self.refuses(BadMaking, {"part": None, "number": None}, call, FACE, thing, thing, thing)

    def test_no_hidden_kind(self):
        for kind in (*ODD_THINGS, "", "add", "bags", 0, 3, ("bag",), ["bag"], deep_thing(50000)):
            self.refuses(OutOfPlace, {}, come_to, FACE, MAKING, kind)
            for call in (level_of, way_of, first_user):
                for worth in ((0, 0), None):
                    self.refuses(OutOfPlace, {}, call, FACE, MAKING, kind, worth)

    def test_no_come_to_worth(self):
        others = ((), (0,), (0, 0, 0), (4, 0), (0, 3), (-1, 0), (True, 0), (0, False), [0, 0], ("0", 0), (None, 0))
        for worth in (*ODD_THINGS, *others, 0, "00", ((0,), 0), ([], 0), ({}, {}), deep_thing(50000)):
            for call in (level_of, way_of, first_user):
                self.refuses(OutOfPlace, {}, call, FACE, MAKING, "bag", worth)
        # A key is 0 or 1, but only 1 is come to.
        for call in (level_of, way_of, first_user):
            self.refuses(OutOfPlace, {}, call, FACE, MAKING, "key", (0,))
            self.refuses(OutOfPlace, {}, call, FACE, MAKING, "key", (True,))
            call(FACE, MAKING, "key", (1,))


if __name__ == "__main__":
    unittest.main()
