import random
import unittest

from sameface.coming import come_to
from sameface.errors import BadFace, BadLead, BadMaking, ToldApart, TooGreat
from sameface.facetext import read_face
from sameface.leading import is_good, leads, need_good
from sameface.makings import is_making
from sameface.makingtext import read_making
from sameface.related import apart, is_same
from tests.helpers import (
    FACE,
    MAKING,
    ODD_THINGS,
    FieldsCase,
    Plainly,
    chance_face,
    chance_making,
    deep_thing,
    with_more,
)
from tests.test_related import BITS, BOX, FULL, MARKED, TEN, THIRTEEN, WHEELS, WHOLE, wheels

# Of both makings a's worths are 0, 1, 2 by numbers, b's one; a is seen to be 0 or not.
TWINS = read_face("hidden a b\nmake 3 : a\nnew : b\nsee a b : 2")
TWIN = read_making(TWINS, "shape a 3\nshape b 2\nmake give in 0 0\nnew give 1\nsee give same in 0 0 0")
# Here 0 of "make" is 2, and 1 and 2 are one.
OTHER_TWIN = read_making(
    TWINS, "shape a 3\nshape b 3\nmake give if in 0 0 0 2\nnew give 2\nsee give same in 0 0 2"
)


def goods_for(face, one, other):
    """For each hidden kind and each worth of the one all numbers that it is well led to, as the document says it."""
    together = Plainly(face, one, other)
    plainly = Plainly(face, other)
    fewest = plainly.fewest()
    goods = []
    for kind in face[0]:
        row = []
        for worth in Plainly(face, one).worths(kind):
            beside = [second for first, second in together.things[kind] if first == worth]
            row.append(
                [
                    number
                    for number, second in enumerate(plainly.worths(kind))
                    if any((kind, second, third) not in fewest for third in beside)
                ]
            )
        goods.append(row)
    return goods


class LeadsTest(FieldsCase):
    def led(self, face, one, other, leading):
        self.same_form(leads(face, one, other), leading)
        self.good(face, one, other, leading)

    def good(self, face, one, other, leading):
        self.assertIs(is_good(face, one, other, leading), True)
        self.assertIsNone(need_good(face, one, other, leading))

    def test_there_and_back(self):
        self.led(BOX, WHOLE, BITS, ((0, 1, 2, 3),))
        self.led(BOX, BITS, WHOLE, ((0, 1, 2, 3),))
        worths = come_to(BOX, MARKED, "box")
        there = leads(BOX, WHOLE, MARKED)
        self.led(BOX, WHOLE, MARKED, there)
        self.assertEqual([worths[number][0] % 4 for number in there[0]], [0, 1, 2, 3])
        self.led(BOX, MARKED, WHOLE, (tuple(worth[0] % 4 for worth in worths),))

    def test_to_itself_the_least_of_each_class(self):
        self.led(BOX, WHOLE, WHOLE, ((0, 1, 2, 3),))
        worths = come_to(BOX, MARKED, "box")
        firsts = [next(n for n, first in enumerate(worths) if first[0] % 4 == worth[0] % 4) for worth in worths]
        self.led(BOX, MARKED, MARKED, (tuple(firsts),))
        bags = [(0, 0), (1, 0), (1, 2), (2, 0), (2, 2), (2, 1), (0, 2), (0, 1), (1, 1), (3, 0), (3, 2), (3, 1)]
        self.assertEqual(come_to(FACE, MAKING, "bag"), bags)
        self.led(FACE, MAKING, MAKING, ((0, 1, 1, 3, 3, 3, 0, 0, 1, 9, 9, 9), (0,)))

    def test_two_kinds(self):
        # By the other making there are (2,) and (0,) of a, numbers 0 and 1.
        self.led(TWINS, TWIN, OTHER_TWIN, ((0, 1, 1), (0,)))
        self.led(TWINS, OTHER_TWIN, TWIN, ((0, 1), (0,)))

    def test_good_ones_that_arent_the_least(self):
        for leading in (((0, 2), (0,)), ((0, 1), (0,))):
            self.good(TWINS, OTHER_TWIN, TWIN, leading)
        self.good(FACE, MAKING, MAKING, (tuple(range(12)), (0,)))
        self.good(FACE, MAKING, MAKING, ((7, 8, 2, 5, 4, 3, 6, 0, 8, 11, 10, 9), (0,)))

    def test_nothing_is_come_to(self):
        face = read_face("hidden a b\nask a b : 2\nnew : a")
        one = read_making(face, "shape a 2\nshape b 2\nask give 1\nnew give 1")
        self.led(face, one, one, ((0,), ()))

    def test_as_the_document_says(self):
        rng = random.Random(47)
        many = 0
        for step in range(120):
            face = chance_face(rng)
            one = chance_making(rng, face)
            other = with_more(rng, face, one, step % len(face[0])) if step % 4 else chance_making(rng, face)
            if not is_making(face, other) or not is_same(face, one, other):
                continue
            many += 1
            for first, second in ((one, other), (other, one)):
                goods = goods_for(face, first, second)
                self.led(face, first, second, tuple(tuple(numbers[0] for numbers in row) for row in goods))
                self.good(face, first, second, tuple(tuple(rng.choice(numbers) for numbers in row) for row in goods))
                self.refused_at_others(face, first, second, goods)
        self.assertGreater(many, 40)

    def refused_at_others(self, face, one, other, goods):
        """Each number that isn't good is refused, where all others are."""
        least = [[numbers[0] for numbers in row] for row in goods]
        for at, row in enumerate(goods):
            for worth, numbers in enumerate(row):
                for number in range(-1, len(come_to(face, other, face[0][at])) + 1):
                    leading = [list(led) for led in least]
                    leading[at][worth] = number
                    leading = tuple(tuple(led) for led in leading)
                    self.assertIs(is_good(face, one, other, leading), number in numbers)
                    if number not in numbers:
                        fields = {"kind": face[0][at], "number": worth}
                        self.refuses(BadLead, fields, need_good, face, one, other, leading)


class BadLeadTest(FieldsCase):
    def bad(self, kind, number, leading):
        self.assertIs(is_good(TWINS, TWIN, OTHER_TWIN, leading), False)
        self.refuses(BadLead, {"kind": kind, "number": number}, need_good, TWINS, TWIN, OTHER_TWIN, leading)

    def test_no_tuple_of_as_many_kinds(self):
        led = (0, 1, 1)
        for leading in (*ODD_THINGS, 1, "ab", (), (led,), (led, (0,), ()), [led, (0,)], deep_thing(50000)):
            self.bad(None, None, leading)

    def test_no_tuple_of_as_many_worths(self):
        for led in (*ODD_THINGS, 1, "abc", (), (0, 1), (0, 1, 1, 1), [0, 1, 1]):
            self.bad("a", None, (led, (0,)))
            self.bad("a", None, (led, None))
        for led in (*ODD_THINGS, 1, "a", (), (0, 0), [0]):
            self.bad("b", None, ((0, 1, 1), led))
            # Ahead of whatever numbers stand there.
            self.bad("b", None, ((9, 9, 9), led))
        self.bad("a", None, (deep_thing(50000)[1:], (0,)))

    def test_no_number_of_a_come_to_worth(self):
        for thing in (*ODD_THINGS, -1, 2, 3, "0", (0,), deep_thing(50000)):
            self.bad("a", 0, ((thing, 1, 1), (0,)))
            self.bad("a", 0, ((thing, thing, thing), (thing,)))
            self.bad("a", 2, ((0, 1, thing), (thing,)))
            self.bad("b", 0, ((0, 1, 1), (thing,)))
        self.bad("b", 0, ((0, 1, 1), (1,)))

    def test_one_that_isnt_good(self):
        self.bad("a", 0, ((1, 1, 1), (0,)))
        self.bad("a", 1, ((0, 0, 1), (0,)))
        self.bad("a", 2, ((0, 1, 0), (None,)))
        self.bad("a", 0, ((1, 0, 0), (9,)))


class RefusedTest(FieldsCase):
    def calls(self, leading):
        return ((leads, ()), (is_good, (leading,)), (need_good, (leading,)))

    def test_no_face_then_no_making(self):
        nothing = {"part": None, "number": None}
        for thing in (*ODD_THINGS, 1, "ab", (), deep_thing(50000)):
            for call, more in self.calls(thing):
                self.refuses(BadFace, nothing, call, thing, thing, thing, *more)
                self.refuses(BadMaking, nothing, call, FACE, thing, thing, *more)
                self.refuses(BadMaking, nothing, call, FACE, MAKING, thing, *more)
        bad = (MAKING[0], MAKING[1][1:])
        for call, more in self.calls(None):
            self.refuses(BadMaking, {"part": "bodies", "number": None}, call, FACE, bad, None, *more)

    def test_too_great(self):
        for ask in (0, 1):
            for call, more in self.calls(None):
                self.refuses(TooGreat, {}, call, WHEELS, wheels(THIRTEEN, 3), wheels(TEN, 7, ask), *more)

    def test_told_apart_with_the_first_user(self):
        user = (("new", ()), ("add", (0, 2)), ("add", (1, 2)))
        for leading in (None, ((0, 1, 2, 3),)):
            for call, more in self.calls(leading):
                self.refuses(ToldApart, {"user": user}, call, BOX, WHOLE, FULL, *more)
                self.refuses(ToldApart, {"user": user}, call, BOX, FULL, BITS, *more)
        self.assertEqual(apart(BOX, WHOLE, FULL), user)


if __name__ == "__main__":
    unittest.main()
