import itertools
import random
import unittest

from sameface.alike import classes_of
from sameface.doing import done
from sameface.errors import BadFace, BadMaking
from sameface.facetext import read_face
from sameface.leastmaking import least_making
from sameface.makings import is_making
from sameface.makingtext import read_making
from sameface.related import is_same
from tests.helpers import FACE, MAKING, ODD_THINGS, FieldsCase, chance_face, chance_making, deep_thing, with_more
from tests.test_related import BITS, BOX, FULL, MARKED, ODD, WHOLE


class LeastMakingTest(FieldsCase):
    def least(self, face, making, told):
        self.same_form(least_making(face, making), told)

    def test_one_for_the_same_makings(self):
        # Classes are 0, 1, 2, 3 in the order in which they come: "add" of 0, 1 and 2.
        add = (0, 1, 2, 1, 2, 3, 2, 3, 0, 3, 0, 1)
        told = ((4,), (add, (0,), (0, 1, 2, 3)))
        for making in (WHOLE, BITS, MARKED):
            self.least(BOX, making, told)

    def test_unlike_ones_for_others(self):
        add = (0, 1, 2, 1, 2, 3, 2, 3, None, 3, None, None)
        self.least(BOX, FULL, ((4,), (add, (0,), (0, 1, 2, 3))))
        self.least(BOX, ODD, ((4,), ((0, 1, 2, 1, 2, 3, 2, 3, 0, 3, 0, 1), (0,), (0, 1, 2, 4))))

    def test_ways_rise(self):
        face = read_face("hidden a b\nask b 2 a : 9\nmix a b : b\nna 3 : a\nnb 2 : b\nnone 2 : a")
        making = read_making(
            face,
            "shape a 3\nshape b 2\nask give plus times 4 in 0 0 plus times 2 in 1 0 same in 2 0 2\n"
            "mix when in 0 0 give in 1 0 refuse\nna give in 0 0\nnb give less 1 in 0 0\nnone refuse",
        )
        # a's classes are (0,); (1,); (2,), b's (1,); (0,).
        mix = (None, None, 0, 1, 0, 1)
        ask = (4, 4, 5, 6, 6, 7, 0, 0, 1, 2, 2, 3)
        self.least(face, making, ((3, 2), (ask, mix, (0, 1, 2), (0, 1), (None, None))))

    def test_nought(self):
        face = read_face("hidden a b\nask a b : 2\nback b : a\nnew 2 : a\nsee a 2 : 2")
        making = read_making(face, "shape a 2\nshape b 2\nask give 1\nback give 1\nnew give 1\nsee give in 1 0")
        self.least(face, making, ((1, 0), ((), (), (0, 0), (0, 1))))
        making = read_making(face, "shape a 2\nshape b 2\nask give 1\nback give 1\nnew refuse\nsee give in 1 0")
        self.least(face, making, ((0, 0), ((), (), (None, None), ())))

    def test_one_class_of_many_worths(self):
        face = read_face("hidden a\nnew 9 : a\nup a : a")
        making = read_making(face, "shape a 9\nnew give in 0 0\nup give plus 1 in 0 0")
        self.least(face, making, ((1,), ((0,) * 9, (0,))))

    def test_as_the_classes_have_it(self):
        rng = random.Random(45)
        for step in range(100):
            face = chance_face(rng)
            making = chance_making(rng, face)
            classes = {kind: classes_of(face, making, kind) for kind in face[0]}
            homes = {}
            for kind, rows in classes.items():
                for number, members in enumerate(rows):
                    homes.update({(kind, worth): number for worth in members})
            tables = []
            for name, takes, gives in face[1]:
                table = []
                sizes = [len(classes[kind]) if kind in classes else kind for kind in takes]
                for way in itertools.product(*[range(size) for size in sizes]):
                    # The last worth of each class: it is one class that comes, whichever is handed.
                    handed = [classes[kind][n][-1] if kind in classes else n for kind, n in zip(takes, way)]
                    given = done(face, making, name, tuple(handed))
                    table.append(homes[(gives, given)] if gives in classes and given is not None else given)
                tables.append(tuple(table))
            self.least(face, making, (tuple(len(classes[kind]) for kind in face[0]), tuple(tables)))

    def test_one_just_where_makings_are_the_same(self):
        rng = random.Random(46)
        told = set()
        for step in range(120):
            face = chance_face(rng)
            one = chance_making(rng, face)
            other = with_more(rng, face, one, 0) if step % 2 else chance_making(rng, face)
            if is_making(face, other):
                told.add(is_same(face, one, other))
                self.assertIs(least_making(face, one) == least_making(face, other), is_same(face, one, other))
        self.assertEqual(told, {True, False})

    def test_no_face_then_no_making(self):
        for thing in (*ODD_THINGS, 1, "ab", (), deep_thing(50000)):
            self.refuses(BadFace, {"part": None, "number": None}, least_making, thing, MAKING)
            self.refuses(BadMaking, {"part": None, "number": None}, least_making, FACE, thing)


if __name__ == "__main__":
    unittest.main()
