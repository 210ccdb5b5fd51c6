import random
import unittest

from sameface.exprs import depth_in, given_by, is_body, parts_in, value_of
from tests.helpers import ODD_THINGS, body, deep_thing

COUNTS = (2, 1)
FIELDS = ((7, -4), (3,))


def number(worth):
    return ("number", worth)


ONE = number(1)
IN = ("in", 0, 1)
GIVE = ("give", (ONE,))
REFUSE = ("refuse",)

RIGHT_EXPRESSIONS = (
    number(0),
    number(99),
    ("in", 0, 0),
    ("in", 0, 1),
    ("in", 1, 0),
    ("plus", ONE, IN),
    ("less", ONE, IN),
    ("times", ONE, IN),
    ("rest", IN, 2),
    ("rest", IN, 99),
    ("same", ONE, IN),
    ("under", ONE, IN),
    ("if", ONE, IN, number(2)),
    ("plus", ("less", IN, ("times", IN, IN)), ("rest", ("if", ONE, ONE, ONE), 5)),
)

BAD_EXPRESSIONS = (
    *ODD_THINGS,
    1,
    "number",
    (),
    ("number",),
    number(-1),
    number(100),
    number(True),
    number(False),
    number(None),
    number("1"),
    number(ONE),
    ("number", 1, 1),
    ["number", 1],
    ("in",),
    ("in", 0),
    ("in", 0, 2),
    ("in", 1, 1),
    ("in", 2, 0),
    ("in", -1, 0),
    ("in", 0, -1),
    ("in", True, 0),
    ("in", 0, True),
    ("in", 0, False),
    ("in", False, 0),
    ("in", 0, None),
    ("in", "0", 0),
    ("in", [], 0),
    ("in", 0, 0, 0),
    ["in", 0, 0],
    ("rest", IN),
    ("rest", IN, 1),
    ("rest", IN, 0),
    ("rest", IN, 100),
    ("rest", IN, True),
    ("rest", IN, number(2)),
    ("rest", 2, IN),
    ("rest", 2, 2),
    ("rest", IN, 2, 2),
    ["rest", IN, 2],
    ("if", ONE, ONE),
    ("if", ONE, ONE, ONE, ONE),
    ("if", 1, ONE, ONE),
    ("if", ONE, True, ONE),
    ("if", ONE, ONE, GIVE),
    ("none", ONE, ONE),
    ("none", ONE, 5),
    ("none", 0, 0),
    ("none", 5),
    ("none", ONE, ONE, ONE),
    ("Plus", ONE, ONE),
    ("", ONE, ONE),
    (None, ONE, ONE),
    ([], ONE, ONE),
    (ONE, ONE, ONE),
    (1, ONE, ONE),
    GIVE,
    REFUSE,
    ("when", ONE, GIVE, GIVE),
)

PAIR_WORDS = ("plus", "less", "times", "same", "under")


def bad_pairs():
    for word in PAIR_WORDS:
        yield (word,)
        yield (word, ONE)
        yield (word, ONE, ONE, ONE)
        yield [word, ONE, ONE]
        for thing in (1, True, None, [], "1", (), ["number", 1], GIVE, REFUSE, number(100)):
            yield (word, thing, ONE)
            yield (word, ONE, thing)


def chain(deep):
    """A body that is so deep, two parts a level but for the first and the last one."""
    return ("give", (deep_thing(deep - 2),))


def full(parts):
    """A body of so many parts, 3 N + 1, that isn't deep: "when" over "when", all refusing."""
    waiting = [REFUSE] * ((parts - 1) // 3 + 1)
    while len(waiting) > 1:
        paired = [("when", ONE, *waiting[at : at + 2]) for at in range(0, len(waiting) - 1, 2)]
        waiting = paired + waiting[2 * len(paired) :]
    return waiting[0]


def with_rest(body):
    """The same body with one part more: its first E stands within a "rest"."""
    word, condition, first, second = body
    return (word, ("rest", condition, 5), first, second)


class BodyTest(unittest.TestCase):
    def body(self, told, thing, counts=COUNTS, many=1):
        self.assertIs(is_body(thing, counts, many), told, thing)

    def test_expressions(self):
        for expression in RIGHT_EXPRESSIONS:
            self.body(True, ("give", (expression,)))
            self.body(True, ("give", (ONE, expression)), many=2)
            self.body(True, ("when", expression, GIVE, REFUSE))
            self.body(True, ("give", (("if", ONE, ONE, expression),)))

    def test_no_expressions(self):
        for expression in (*BAD_EXPRESSIONS, *bad_pairs()):
            self.body(False, ("give", (expression,)))
            self.body(False, ("give", (ONE, expression)), many=2)
            self.body(False, ("when", expression, GIVE, REFUSE))
            self.body(False, ("give", (("if", ONE, ONE, expression),)))
            self.body(False, ("give", (("rest", expression, 5),)))

    def test_nothing_is_handed_in(self):
        self.body(False, ("give", (("in", 0, 0),)), counts=())
        self.body(True, GIVE, counts=())

    def test_each_thing_has_its_own_fields(self):
        for thing, count in enumerate((1, 3, 2)):
            for field in range(4):
                self.body(field < count, ("give", (("in", thing, field),)), counts=(1, 3, 2))

    def test_bodies(self):
        self.body(True, GIVE)
        self.body(True, REFUSE)
        self.body(True, ("when", ONE, GIVE, REFUSE))
        self.body(True, ("when", ONE, ("when", IN, REFUSE, GIVE), ("when", IN, GIVE, REFUSE)))
        self.body(True, ("give", (ONE, IN, ONE)), many=3)

    def test_no_bodies(self):
        others = (*ODD_THINGS, 1, "refuse", (), ("give",), ("give", ()), ("give", (ONE, ONE)), ("give", [ONE]))
        others = (*others, ("give", ONE), ("give", (ONE,), ()), ["give", (ONE,)], ("give", None), ("give", "a"))
        others = (*others, ("refuse", ()), ("refuse", ONE), ["refuse"], ("Refuse",), ([],), (None,), ONE, IN, (REFUSE,))
        others = (*others, ("when",), ("when", ONE), ("when", ONE, GIVE), ("when", ONE, GIVE, GIVE, GIVE))
        others = (*others, ["when", ONE, GIVE, GIVE], ("when", GIVE, GIVE, GIVE), ("when", ONE, ONE, GIVE))
        others = (*others, ("when", ONE, GIVE, ONE), ("when", ONE, ["refuse"], GIVE), ("call", "a", (), GIVE))
        others = (*others, ("none", (ONE,)), ("refuse", (ONE,)), ("none", ONE, GIVE, GIVE), ("give", ONE, GIVE, GIVE))
        for thing in others:
            self.body(False, thing)
            self.body(False, ("when", ONE, thing, GIVE))
            self.body(False, ("when", ONE, GIVE, thing))

    def test_as_many_fields_as_wanted(self):
        for many in (1, 2, 3):
            for given in range(5):
                body = ("give", (ONE,) * given)
                self.body(given == many, body, many=many)
                self.body(given == many, ("when", ONE, REFUSE, body), many=many)

    def test_deep(self):
        self.body(True, chain(8))
        self.body(False, chain(9))
        body = REFUSE
        for deep in range(1, 12):
            self.assertEqual(depth_in(body), deep)
            self.body(deep <= 8, body)
            body = ("when", ONE, REFUSE, body)

    def test_each_word_at_the_last_depth(self):
        # The "give" is 1 deep, chains are 2 and on: at 8 a number may stand, and nothing that has an E in it.
        for inner in (("rest", ONE, 5), ("plus", ONE, ONE), ("if", ONE, ONE, ONE)):
            for deep in (5, 6, 7):
                for place in (1, 2, 3):
                    thing = inner
                    for step in range(deep - 2):
                        parts = ["if", ONE, ONE, ONE]
                        parts[place] = thing
                        thing = tuple(parts)
                    self.assertEqual(depth_in(("give", (thing,))), deep + 1)
                    self.body(deep < 8, ("give", (thing,)))
                    self.body(deep < 7, ("when", ONE, REFUSE, ("give", (thing,))))
                    self.body(deep < 8, ("when", thing, REFUSE, REFUSE))
            thing = inner
            for step in range(6):
                thing = ("if", thing, ONE, ONE)
            self.body(False, ("give", (thing,)))
            self.body(False, ("when", thing, REFUSE, REFUSE))

    def test_great(self):
        for parts, body in ((58, full(58)), (59, with_rest(full(58))), (60, with_rest(with_rest(full(58))))):
            self.assertEqual(parts_in(body), parts)
            self.body(True, body)
        for body in (full(61), with_rest(with_rest(with_rest(full(58))))):
            self.assertEqual(parts_in(body), 61)
            self.assertLessEqual(depth_in(body), 8)
            self.body(False, body)

    def test_as_great_and_as_deep_as_they_are(self):
        rng = random.Random(11)
        told = set()
        for step in range(3000):
            thing = body(rng, COUNTS, 2, rng.randint(6, 10))
            great, deep = parts_in(thing) > 60, depth_in(thing) > 8
            told.add((great, deep))
            self.body(not great and not deep, thing, many=2)
        self.assertEqual(len(told), 4)

    def test_thousands_deep(self):
        self.assertIs(is_body(("give", (deep_thing(100000),)), COUNTS, 1), False)
        body = REFUSE
        for step in range(100000):
            body = ("when", ONE, body, body)
        self.assertIs(is_body(body, COUNTS, 1), False)

    def test_each_holds_the_next_twice(self):
        twice = ONE
        for step in range(60):
            twice = ("plus", twice, twice)
        self.assertIs(is_body(("give", (twice,)), COUNTS, 1), False)
        shallow = ONE
        for step in range(6):
            shallow = ("if", shallow, shallow, shallow)
        self.assertIs(is_body(("give", (shallow,)), COUNTS, 1), False)

    def test_it_looks_no_further_than_sixty(self):
        looked = []

        class Watched(tuple):
            def __getitem__(self, at):
                looked.append(at)
                return tuple.__getitem__(self, at)

        shallow = ONE
        for step in range(6):
            shallow = Watched(("if", shallow, shallow, shallow))
        self.assertIs(is_body(("give", (shallow,)), COUNTS, 1), False)
        self.assertLess(len(looked), 60 * 8)

    def test_a_great_many_given(self):
        self.assertIs(is_body(("give", (ONE,) * 100000), COUNTS, 1), False)
        self.assertIs(is_body(("give", (ONE,) * 100000), COUNTS, 100000), False)


class CountedTest(unittest.TestCase):
    def test_single(self):
        for part in (ONE, IN, REFUSE):
            self.assertEqual((parts_in(part), depth_in(part)), (1, 1))

    def test_each_word(self):
        for word in PAIR_WORDS:
            self.assertEqual((parts_in((word, ONE, IN)), depth_in((word, ONE, IN))), (3, 2))
        self.assertEqual((parts_in(("rest", ONE, 5)), depth_in(("rest", ONE, 5))), (2, 2))
        self.assertEqual((parts_in(("if", ONE, ONE, IN)), depth_in(("if", ONE, ONE, IN))), (4, 2))
        self.assertEqual((parts_in(GIVE), depth_in(GIVE)), (2, 2))
        self.assertEqual((parts_in(("give", (ONE, IN, ONE))), depth_in(("give", (ONE, IN, ONE)))), (4, 2))
        when = ("when", ONE, GIVE, REFUSE)
        self.assertEqual((parts_in(when), depth_in(when)), (5, 3))

    def test_the_deepest_counts(self):
        deep = ("rest", ("rest", ("rest", ONE, 5), 5), 5)
        for expression in (("plus", ONE, deep), ("plus", deep, ONE), ("if", ONE, deep, ONE)):
            self.assertEqual(depth_in(expression), 5)
        self.assertEqual(parts_in(("plus", deep, deep)), 9)

    def test_beyond_the_bounds(self):
        self.assertEqual(parts_in(full(70)), 70)
        self.assertEqual((parts_in(chain(12)), depth_in(chain(12))), (22, 12))


class ValueTest(unittest.TestCase):
    def told(self, expression, worth):
        value = value_of(expression, FIELDS)
        self.assertEqual((value, type(value)), (worth, int), expression)

    def test_numbers_and_fields(self):
        self.told(number(0), 0)
        self.told(number(99), 99)
        self.told(("in", 0, 0), 7)
        self.told(("in", 0, 1), -4)
        self.told(("in", 1, 0), 3)

    def test_pairs(self):
        seven, four, three = ("in", 0, 0), ("in", 0, 1), ("in", 1, 0)
        self.told(("plus", seven, three), 10)
        self.told(("plus", seven, four), 3)
        self.told(("less", seven, three), 4)
        self.told(("less", three, seven), -4)
        self.told(("times", seven, three), 21)
        self.told(("times", seven, four), -28)
        self.told(("same", seven, three), 0)
        self.told(("same", seven, number(7)), 1)
        self.told(("under", three, seven), 1)
        self.told(("under", seven, three), 0)
        self.told(("under", seven, seven), 0)
        self.told(("under", four, number(0)), 1)

    def test_rest(self):
        self.told(("rest", ("in", 0, 0), 4), 3)
        self.told(("rest", ("in", 0, 1), 3), 2)
        self.told(("rest", ("in", 0, 1), 99), 95)
        self.told(("rest", ("in", 0, 1), 2), 0)
        self.told(("rest", ("less", number(0), number(99)), 10), 1)

    def test_if(self):
        self.told(("if", number(1), number(5), number(6)), 5)
        self.told(("if", number(2), number(5), number(6)), 5)
        self.told(("if", ("in", 0, 1), number(5), number(6)), 5)
        self.told(("if", number(0), number(5), number(6)), 6)

    def test_great_numbers(self):
        great = number(99)
        for step in range(6):
            great = ("times", great, great)
        self.told(great, 99**64)
        self.told(("rest", ("less", number(0), great), 97), -(99**64) % 97)

    def test_given(self):
        self.assertEqual(given_by(("give", (("in", 0, 1), number(50))), FIELDS), (-4, 50))
        self.assertIs(type(given_by(GIVE, FIELDS)), tuple)
        self.assertIsNone(given_by(REFUSE, FIELDS))

    def test_when(self):
        two = ("give", (number(2),))
        self.assertEqual(given_by(("when", number(3), GIVE, two), FIELDS), (1,))
        self.assertEqual(given_by(("when", ("in", 0, 1), GIVE, two), FIELDS), (1,))
        self.assertEqual(given_by(("when", number(0), GIVE, two), FIELDS), (2,))
        self.assertIsNone(given_by(("when", number(0), GIVE, REFUSE), FIELDS))
        nested = ("when", number(0), REFUSE, ("when", number(1), ("when", number(0), REFUSE, two), GIVE))
        self.assertEqual(given_by(nested, FIELDS), (2,))


if __name__ == "__main__":
    unittest.main()
