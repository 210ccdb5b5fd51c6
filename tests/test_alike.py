import random
import unittest

from sameface.alike import are_alike, classes_of
from sameface.coming import come_to
from sameface.errors import BadFace, BadMaking, OutOfPlace
from sameface.facetext import read_face
from sameface.makingtext import read_making
from tests.helpers import FACE, MAKING, ODD_THINGS, FieldsCase, Plainly, chance_face, chance_making, deep_thing
from tests.test_related import BOX, MARKED, WHOLE


class AlikeTest(FieldsCase):
    def classes(self, face, making, kind, told):
        """The classes are these, and worths are alike just where they are in one of them."""
        self.same_form(classes_of(face, making, kind), told)
        homes = {worth: number for number, members in enumerate(told) for worth in members}
        self.assertEqual(set(homes), set(come_to(face, making, kind)))
        for one in homes:
            for other in homes:
                self.assertIs(are_alike(face, making, kind, one, other), homes[one] == homes[other], (one, other))

    def test_told_apart_at_once_by_a_number(self):
        self.classes(BOX, WHOLE, "box", [[(0,)], [(1,)], [(2,)], [(3,)]])

    def test_alike_ones_of_unlike_fields(self):
        worths = come_to(BOX, MARKED, "box")
        self.assertEqual(len(worths), 16)
        told = [[worth for worth in worths if worth[0] % 4 == number] for number in range(4)]
        self.classes(BOX, MARKED, "box", told)

    def test_told_apart_at_once_by_a_refusal(self):
        face = read_face("hidden a\nnew 4 : a\ntry a 2 : a")
        making = read_making(face, "shape a 4\nnew give in 0 0\ntry when times in 1 0 same in 0 0 2 refuse give 1")
        self.classes(face, making, "a", [[(0,), (1,), (3,)], [(2,)]])

    def test_told_apart_some_steps_behind(self):
        # "down" is refused at 0 alone: 1, 2, 3 and 4 are told apart by as many steps and one more.
        face = read_face("hidden a\ndown a : a\nnew 5 : a")
        making = read_making(face, "shape a 5\ndown when in 0 0 give less in 0 0 1 refuse\nnew give in 0 0")
        self.classes(face, making, "a", [[(0,)], [(1,)], [(2,)], [(3,)], [(4,)]])
        # Up to 3 they go round, 4 stays as it is: nobody sees it.
        making = read_making(face, "shape a 5\ndown give if same in 0 0 4 4 rest plus in 0 0 1 4\nnew give in 0 0")
        self.classes(face, making, "a", [[(0,), (1,), (2,), (3,), (4,)]])

    def test_told_apart_by_way_of_the_other_kind(self):
        face = read_face("hidden a b\nask b : 2\nmake 4 : a\nnew : b\nturn a : b")
        making = read_making(
            face, "shape a 4\nshape b 4\nask give under in 0 0 2\nmake give in 0 0\nnew give 0\nturn give in 0 0"
        )
        self.classes(face, making, "a", [[(0,), (1,)], [(2,), (3,)]])
        self.classes(face, making, "b", [[(0,), (1,)], [(2,), (3,)]])

    def test_other_worths_beside(self):
        # Only beside 3, handed first, are 1 and 2 told apart; 3 isn't come to by the second making.
        face = read_face("hidden a\nmix a a : 2\nnew 3 : a\nthree : a")
        text = "shape a 4\nmix give times same in 0 0 3 same in 1 0 2\nnew give in 0 0\nthree {}"
        self.classes(face, read_making(face, text.format("give 3")), "a", [[(0,), (1,)], [(2,)], [(3,)]])
        self.classes(face, read_making(face, text.format("refuse")), "a", [[(0,), (1,), (2,)]])

    def test_plain_numbers_beside(self):
        face = read_face("hidden a\nmix 3 a 2 : 2\nnew 3 : a")
        text = "shape a 3\nmix give times same in 0 0 2 times in 2 0 in 1 0\nnew give in 0 0"
        self.classes(face, read_making(face, text), "a", [[(0,), (2,)], [(1,)]])

    def test_at_either_place(self):
        # With x at both places at once nothing would be seen.
        face = read_face("hidden a\nmix a a : a\nnew 3 : a\nsee a : 2")
        making = read_making(
            face, "shape a 3\nmix when same in 0 0 in 1 0 refuse give 0\nnew give in 0 0\nsee give 0"
        )
        self.classes(face, making, "a", [[(0,)], [(1,)], [(2,)]])

    def test_classes_by_their_least_numbers(self):
        # By numbers worths are 3, 2, 1, 0; classes are by parity.
        face = read_face("hidden a\nnew 4 : a\nodd a : 2")
        making = read_making(face, "shape a 4\nnew give less 3 in 0 0\nodd give in 0 0")
        self.classes(face, making, "a", [[(3,), (1,)], [(2,), (0,)]])

    def test_nothing_is_come_to(self):
        face = read_face("hidden a b\nask a b : 2\nmix a 2 b : 3\nnew 2 : a")
        making = read_making(face, "shape a 2\nshape b 2\nask give in 0 0\nmix give in 0 0\nnew give in 0 0")
        self.classes(face, making, "a", [[(0,), (1,)]])
        self.classes(face, making, "b", [])

    def test_one_worth(self):
        self.classes(FACE, MAKING, "key", [[(1,)]])

    def test_as_the_document_finds_it(self):
        rng = random.Random(42)
        for step in range(120):
            face = chance_face(rng)
            making = chance_making(rng, face)
            plainly = Plainly(face, making)
            fewest = plainly.fewest()
            for kind in face[0]:
                classes = []
                for worth in plainly.worths(kind):
                    home = [members for members in classes if (kind, worth, members[0]) not in fewest]
                    if home:
                        home[0].append(worth)
                    else:
                        classes.append([worth])
                self.classes(face, making, kind, classes)


class AskedTest(FieldsCase):
    def test_told_lists_are_the_askers_own(self):
        first = classes_of(BOX, MARKED, "box")
        told = classes_of(BOX, MARKED, "box")
        told[0].pop()
        told[1][0] = (9,)
        told.pop()
        told.append(told[0])
        self.assertEqual(classes_of(BOX, MARKED, "box"), first)

    def test_no_face_then_no_making(self):
        nothing = {"part": None, "number": None}
        for thing in (*ODD_THINGS, 1, "ab", (), deep_thing(50000)):
            self.refuses(BadFace, nothing, classes_of, thing, thing, thing)
            self.refuses(BadMaking, nothing, classes_of, FACE, thing, thing)
            self.refuses(BadFace, nothing, are_alike, thing, thing, thing, thing, thing)
            self.refuses(BadMaking, nothing, are_alike, FACE, thing, thing, thing, thing)

    def test_no_hidden_kind(self):
        for kind in (*ODD_THINGS, "", "add", "bags", 0, 3, ("bag",), ["bag"], deep_thing(50000)):
            self.refuses(OutOfPlace, {}, classes_of, FACE, MAKING, kind)
            for worth in ((0, 0), None):
                self.refuses(OutOfPlace, {}, are_alike, FACE, MAKING, kind, worth, worth)

    def test_no_come_to_worth(self):
        others = ((), (0,), (0, 0, 0), (4, 0), (0, 3), (-1, 0), (True, 0), (0, False), [0, 0], ("0", 0), (None, 0))
        for worth in (*ODD_THINGS, *others, 0, "00", ((0,), 0), ([], 0), deep_thing(50000)):
            self.refuses(OutOfPlace, {}, are_alike, FACE, MAKING, "bag", worth, (0, 0))
            self.refuses(OutOfPlace, {}, are_alike, FACE, MAKING, "bag", (0, 0), worth)
            self.refuses(OutOfPlace, {}, are_alike, FACE, MAKING, "bag", worth, worth)
        # (0,) is a worth of a key that isn't come to.
        self.refuses(OutOfPlace, {}, are_alike, FACE, MAKING, "key", (1,), (0,))
        self.refuses(OutOfPlace, {}, are_alike, FACE, MAKING, "key", (0,), (0,))


if __name__ == "__main__":
    unittest.main()
