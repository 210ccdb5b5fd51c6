import random
import unittest

from sameface.errors import BadMaking, BadUse, OutOfPlace, Refused, ToldApart, TooGreat
from sameface.facetext import read_face
from sameface.house import House
from sameface.leading import leads
from sameface.makings import is_making
from sameface.makingtext import read_making
from sameface.related import apart, is_same
from tests.helpers import FACE, MAKING, ODD_THINGS, FieldsCase, chance_face, chance_making, deep_thing, with_more
from tests.test_related import BITS, BOX, FULL, MARKED, ODD, THIRTEEN, WHEELS, WHOLE, wheels

NO_NAMES = (*ODD_THINGS, 0, 1, "", "abcdefghi", "A", "a1", "a b", (), ("a",), deep_thing(50000))

# Two hidden kinds: a card is drawn from a deck by its number, two cards are compared.
CARDS = read_face("hidden card deck\ncut deck 3 : deck\ndraw deck : card\nless card card : 2\nnew : deck\npip card : 4")
CARDS_MAKING = read_making(
    CARDS,
    "shape card 4\nshape deck 4\ncut when same in 0 0 in 1 0 refuse give plus in 0 0 in 1 0\ndraw give in 0 0\n"
    "less give under in 0 0 in 1 0\nnew give 3\npip give in 0 0",
)


def house(*uses):
    return House(tuple(uses))


class UsesTest(FieldsCase):
    def bad(self, number, uses):
        self.refuses(BadUse, {"number": number}, House, uses)

    def test_no_tuple_of_one_to_four(self):
        use = ("a", BOX, WHOLE)
        four = tuple((label, BOX, WHOLE) for label in "dcba")
        for thing in (*ODD_THINGS, 0, "abc", (), [use], (*four, use), deep_thing(50000)[:0]):
            self.bad(None, thing)
        self.same_form(House(four).uses_now(), four)
        self.same_form(House((use,)).uses_now(), (use,))

    def test_no_use(self):
        right = ("a", BOX, WHOLE)
        wrong = [(), ("b", BOX), ("b", BOX, WHOLE, WHOLE), ["b", BOX, WHOLE], ("b", WHOLE, BOX), ("b", FACE, WHOLE)]
        wrong += [("b", BOX, None), ("b", None, None), ("b", (BOX[0], ()), WHOLE), right, ("a", FACE, MAKING)]
        wrong += [(name, BOX, WHOLE) for name in NO_NAMES]
        for thing in (*ODD_THINGS, 0, "abc", *wrong, deep_thing(50000)):
            self.bad(1, (right, thing))
            self.bad(1, (right, thing, None))
        self.bad(0, (None, None, None, None))
        self.bad(3, (right, ("b", BOX, BITS), ("c", FACE, MAKING), ("b", BOX, BITS)))

    def test_one_face_one_making_are_two(self):
        told = house(("a", BOX, WHOLE), ("b", BOX, WHOLE))
        told.give_name("x", "a", "new", ())
        told.give_name("y", "b", "new", ())
        self.assertEqual(told.kind_of("x"), ("a", "box"))
        self.assertEqual(told.kind_of("y"), ("b", "box"))
        self.refuses(OutOfPlace, {}, told.ask_deed, "a", "see", ("y",))
        self.refuses(OutOfPlace, {}, told.ask_deed, "b", "see", ("x",))
        self.refuses(OutOfPlace, {}, told.give_name, "z", "b", "add", ("x", 1))
        self.refuses(OutOfPlace, {}, told.alike_held, "x", "y")
        self.assertEqual(told.ask_deed("a", "see", ("x",)), 0)
        # A change of the one is none of the other.
        told.change("a", BITS)
        self.same_form(told.uses_now(), (("a", BOX, BITS), ("b", BOX, WHOLE)))


class HeldTest(FieldsCase):
    def setUp(self):
        self.house = house(("box", BOX, FULL), ("cards", CARDS, CARDS_MAKING))

    def see(self, name):
        return self.house.ask_deed("box", "see", (name,))

    def test_nothing_at_first(self):
        self.same_form(self.house.names_held(), [])
        self.assertEqual(self.house.looked(), 0)
        for name in (*NO_NAMES, "box", "new"):
            self.refuses(OutOfPlace, {}, self.house.kind_of, name)
            self.refuses(OutOfPlace, {}, self.house.drop_name, name)
            self.refuses(OutOfPlace, {}, self.house.alike_held, name, name)

    def test_names_given(self):
        self.assertIsNone(self.house.give_name("b", "box", "new", ()))
        self.house.give_name("abcdefgh", "box", "add", ("b", 2))
        self.house.give_name("deck", "cards", "new", ())
        self.house.give_name("card", "cards", "draw", ("deck",))
        self.same_form(self.house.names_held(), ["abcdefgh", "b", "card", "deck"])
        self.same_form(self.house.kind_of("card"), ("cards", "card"))
        self.same_form(self.house.kind_of("deck"), ("cards", "deck"))
        self.same_form(self.house.kind_of("abcdefgh"), ("box", "box"))
        self.same_form(self.see("b"), 0)
        self.same_form(self.see("abcdefgh"), 2)
        self.same_form(self.house.ask_deed("cards", "pip", ("card",)), 3)
        self.same_form(self.house.ask_deed("cards", "less", ("card", "card")), 0)

    def test_names_given_anew(self):
        self.house.give_name("b", "box", "new", ())
        for due in (1, 2, 3):
            self.house.give_name("b", "box", "add", ("b", 1))
            self.assertEqual(self.see("b"), due)
        self.house.give_name("b", "cards", "new", ())
        self.same_form(self.house.kind_of("b"), ("cards", "deck"))
        self.refuses(OutOfPlace, {}, self.see, "b")
        self.same_form(self.house.names_held(), ["b"])

    def test_names_dropped(self):
        self.house.give_name("a", "box", "new", ())
        self.house.give_name("b", "box", "add", ("a", 1))
        self.assertIsNone(self.house.drop_name("a"))
        self.same_form(self.house.names_held(), ["b"])
        self.refuses(OutOfPlace, {}, self.house.drop_name, "a")
        self.refuses(OutOfPlace, {}, self.house.kind_of, "a")
        self.refuses(OutOfPlace, {}, self.see, "a")
        self.assertEqual(self.see("b"), 1)

    def test_refused_changes_nothing(self):
        self.house.give_name("b", "box", "new", ())
        self.house.give_name("b", "box", "add", ("b", 2))
        for name in ("b", "c"):
            self.refuses(Refused, {}, self.house.give_name, name, "box", "add", ("b", 2))
        self.same_form(self.house.names_held(), ["b"])
        self.assertEqual(self.see("b"), 2)
        mute = house(("a", BOX, read_making(BOX, "shape box 2\nadd refuse\nnew give 1\nsee refuse")))
        mute.give_name("x", "a", "new", ())
        self.refuses(Refused, {}, mute.ask_deed, "a", "see", ("x",))

    def test_what_can_be_handed(self):
        self.house.give_name("b", "box", "new", ())
        self.house.give_name("deck", "cards", "new", ())
        self.house.give_name("card", "cards", "draw", ("deck",))
        for thing in (*ODD_THINGS, 3, -1, "1", "b", (1,), deep_thing(50000)):
            self.refuses(OutOfPlace, {}, self.house.give_name, "c", "box", "add", ("b", thing))
        for thing in (*NO_NAMES, "none", "deck", "card", "c"):
            self.refuses(OutOfPlace, {}, self.house.give_name, "c", "box", "add", (thing, 1))
            self.refuses(OutOfPlace, {}, self.see, thing)
        for handed in (*ODD_THINGS, 0, "b", (), ("b",), ("b", 1, 1), ["b", 1], (1, "b"), deep_thing(50000)):
            self.refuses(OutOfPlace, {}, self.house.give_name, "c", "box", "add", handed)
        for handed in (("card",), ("deck", "card"), ("card", "deck"), ("card", "b"), ("card", "card", "card")):
            self.refuses(OutOfPlace, {}, self.house.ask_deed, "cards", "less", handed)
        self.same_form(self.house.names_held(), ["b", "card", "deck"])

    def test_order(self):
        # What can't be goes ahead of a deed that refuses.
        mute = house(("a", BOX, read_making(BOX, "shape box 2\nadd refuse\nnew refuse\nsee refuse")))
        self.refuses(Refused, {}, mute.give_name, "x", "a", "new", ())
        for name in NO_NAMES:
            self.refuses(OutOfPlace, {}, mute.give_name, name, "a", "new", ())
            self.refuses(OutOfPlace, {}, mute.give_name, name, name, name, name)
            self.refuses(OutOfPlace, {}, mute.give_name, "x", name, "new", ())
            self.refuses(OutOfPlace, {}, mute.give_name, "x", "a", name, ())
            self.refuses(OutOfPlace, {}, mute.ask_deed, name, "see", ("x",))
            self.refuses(OutOfPlace, {}, mute.ask_deed, "a", name, ())
        for label in ("box", "b", "new"):
            self.refuses(OutOfPlace, {}, mute.give_name, "x", label, "new", ())
            self.refuses(OutOfPlace, {}, mute.ask_deed, label, "see", ("x",))
        # A deed that gives a plain kind is asked, one that gives a hidden kind is none to ask.
        self.house.give_name("b", "box", "new", ())
        self.refuses(OutOfPlace, {}, self.house.give_name, "x", "box", "see", ("b",))
        self.refuses(OutOfPlace, {}, self.house.ask_deed, "box", "new", ())
        self.refuses(OutOfPlace, {}, self.house.ask_deed, "box", "add", ("b", 1))
        self.refuses(OutOfPlace, {}, self.house.give_name, "x", "box", "draw", ("b",))
        self.same_form(self.house.names_held(), ["b"])

    def test_told_lists_are_the_askers_own(self):
        self.house.give_name("b", "box", "new", ())
        told = self.house.names_held()
        told.append("x")
        told[0] = None
        self.same_form(self.house.names_held(), ["b"])
        later = self.house.names_held()
        self.house.drop_name("b")
        self.same_form(later, ["b"])

    def test_alike(self):
        marked = house(("box", BOX, MARKED), ("cards", CARDS, CARDS_MAKING))
        marked.give_name("a", "box", "new", ())
        # 4 with the mark 0, 0 with the mark 1 ..: seen by 4.
        marked.give_name("b", "box", "add", ("a", 2))
        marked.give_name("c", "box", "add", ("b", 2))
        marked.give_name("d", "cards", "new", ())
        marked.give_name("e", "cards", "draw", ("d",))
        for one, other, told in (("a", "a", True), ("a", "b", False), ("a", "c", True), ("c", "a", True)):
            self.assertIs(marked.alike_held(one, other), told)
        self.assertIs(marked.alike_held("d", "d"), True)
        for one, other in (("a", "d"), ("d", "e"), ("a", "none"), ("none", "a"), ("none", "d")):
            self.refuses(OutOfPlace, {}, marked.alike_held, one, other)
        for thing in NO_NAMES:
            self.refuses(OutOfPlace, {}, marked.alike_held, thing, "a")
            self.refuses(OutOfPlace, {}, marked.alike_held, "a", thing)
        # By another making it is told anew.
        marked.change("box", WHOLE)
        self.assertIs(marked.alike_held("a", "c"), True)
        self.assertIs(marked.alike_held("a", "b"), False)


class ChangeTest(FieldsCase):
    def setUp(self):
        self.house = house(("a", BOX, WHOLE), ("b", BOX, FULL))
        self.house.give_name("x", "a", "new", ())
        self.house.give_name("y", "a", "add", ("x", 2))
        self.house.give_name("z", "b", "new", ())

    def seen(self):
        return [self.house.ask_deed(label, "see", (name,)) for label, name in (("a", "x"), ("a", "y"), ("b", "z"))]

    def test_for_a_same_one(self):
        for making in (BITS, MARKED, WHOLE, MARKED, BITS, BITS):
            self.assertIsNone(self.house.change("a", making))
            self.same_form(self.house.uses_now(), (("a", BOX, making), ("b", BOX, FULL)))
            self.assertEqual(self.seen(), [0, 2, 0])
            self.same_form(self.house.names_held(), ["x", "y", "z"])
            self.house.give_name("y", "a", "add", ("y", 2))
            self.house.give_name("y", "a", "add", ("y", 2))
        # WHOLE to BITS, BITS to MARKED, MARKED to WHOLE, WHOLE to MARKED, MARKED to BITS, BITS to BITS.
        self.assertEqual(self.house.looked(), 6)

    def test_by_the_least_leading(self):
        # Of MARKED 0 is led to by 4 with the mark 0, the first one of its class: by "new".
        self.house.change("a", MARKED)
        self.house.give_name("w", "a", "new", ())
        self.assertEqual(leads(BOX, WHOLE, MARKED)[0][0], 0)
        self.assertEqual(self.seen(), [0, 2, 0])
        self.assertIs(self.house.alike_held("w", "x"), True)
        # Leading is seen nowhere else: by a making that shows it.
        face = read_face("hidden a\nnew 4 : a\nsee a : 2")
        one = read_making(face, "shape a 4\nnew give in 0 0\nsee give in 0 0")
        other = read_making(face, "shape a 4\nnew give less 3 in 0 0\nsee give plus 1 in 0 0")
        told = house(("a", face, one))
        for number in range(4):
            told.give_name("wxyz"[number], "a", "new", (number,))
        for step in range(3):
            told.change("a", other if step % 2 == 0 else one)
            for number in range(4):
                self.assertEqual(told.ask_deed("a", "see", ("wxyz"[number],)), number % 2)
                self.assertEqual(told.alike_held("w", "wxyz"[number]), number % 2 == 0)

    def test_for_the_very_same_one(self):
        self.house.change("a", WHOLE)
        self.assertEqual(self.seen(), [0, 2, 0])
        self.assertEqual(self.house.looked(), 1)
        self.house.change("a", WHOLE)
        self.assertEqual(self.house.looked(), 1)

    def test_told_apart(self):
        for making in (FULL, ODD):
            for again in range(2):
                user = apart(BOX, WHOLE, making)
                self.refuses(ToldApart, {"user": user}, self.house.change, "a", making)
            self.same_form(self.house.uses_now(), (("a", BOX, WHOLE), ("b", BOX, FULL)))
            self.assertEqual(self.seen(), [0, 2, 0])
        self.assertEqual(self.house.looked(), 2)
        # The other way round it is told of another three.
        self.refuses(ToldApart, {"user": apart(BOX, FULL, WHOLE)}, self.house.change, "b", WHOLE)
        self.assertEqual(self.house.looked(), 3)

    def test_looked_is_of_the_face_and_both_makings(self):
        told = house(("a", BOX, WHOLE), ("b", BOX, WHOLE), ("c", CARDS, CARDS_MAKING))
        told.change("a", BITS)
        told.change("b", BITS)
        self.assertEqual(told.looked(), 1)
        told.change("b", WHOLE)
        self.assertEqual(told.looked(), 2)
        told.change("b", BITS)
        told.change("a", WHOLE)
        self.assertEqual(told.looked(), 2)
        told.change("c", CARDS_MAKING)
        self.assertEqual(told.looked(), 3)
        # One making of two faces.
        one = read_face("hidden a\nnew : a")
        other = read_face("hidden a\nold : a")
        making = (((2,),), (("give", (("number", 0),)),))
        told = house(("a", one, making), ("b", other, making))
        told.change("a", making)
        told.change("b", making)
        self.assertEqual(told.looked(), 2)

    def test_no_label_then_no_making(self):
        for label in (*NO_NAMES, "c", "box", "x"):
            self.refuses(OutOfPlace, {}, self.house.change, label, None)
        for thing in (*ODD_THINGS, 1, "ab", (), deep_thing(50000)):
            self.refuses(BadMaking, {"part": None, "number": None}, self.house.change, "a", thing)
        self.refuses(BadMaking, {"part": "shapes", "number": None}, self.house.change, "a", MAKING)
        self.refuses(BadMaking, {"part": "bodies", "number": None}, self.house.change, "a", (WHOLE[0], ()))
        self.refuses(BadMaking, {"part": "shapes", "number": 0}, self.house.change, "a", ((None,), WHOLE[1]))
        self.assertEqual(self.house.looked(), 0)
        self.assertEqual(self.seen(), [0, 2, 0])

    def test_too_great(self):
        # 13 by 12 pairs.
        one = wheels(THIRTEEN, 2)
        last = "same plus in 0 0 times 8 in 0 1 11"
        twelve = f"give if {last} 0 plus in 0 0 1 , if {last} 0 if same in 0 0 7 1 in 0 1"
        great = wheels(("8 2", twelve, "0 , 0"), 2)
        told = house(("w", WHEELS, one))
        told.give_name("a", "w", "new", ())
        self.refuses(TooGreat, {}, told.change, "w", great)
        self.same_form(told.uses_now(), (("w", WHEELS, one),))
        self.assertEqual(told.looked(), 0)

    def test_two_houses_by_turns(self):
        other = house(("a", BOX, WHOLE))
        self.house.change("a", BITS)
        self.assertEqual(other.looked(), 0)
        self.same_form(other.names_held(), [])
        other.give_name("x", "a", "new", ())
        other.give_name("x", "a", "add", ("x", 1))
        self.assertEqual(self.seen(), [0, 2, 0])
        self.assertEqual(other.ask_deed("a", "see", ("x",)), 1)
        self.refuses(OutOfPlace, {}, other.change, "b", WHOLE)
        self.same_form(other.uses_now(), (("a", BOX, WHOLE),))

    def test_what_is_told_doesnt_hang_on_changes(self):
        rng = random.Random(90)
        changes = 0
        for step in range(60):
            face = chance_face(rng)
            one = chance_making(rng, face)
            others = [one] + [with_more(rng, face, one, number) for number in range(len(face[0]))]
            others = [other for other in others if is_making(face, other) and is_same(face, one, other)]
            still, changed = house(("a", face, one)), house(("a", face, one))
            for again in range(40):
                name, takes, gives = rng.choice(face[1])
                held = still.names_held()
                things = [rng.choice(held) if kind in face[0] and held else 0 for kind in takes]
                handed = tuple(thing if kind in face[0] else rng.randrange(kind) for kind, thing in zip(takes, things))
                call, more = ("give_name", (rng.choice("pqrst"),)) if gives in face[0] else ("ask_deed", ())
                told = [outcome(getattr(asked, call), *more, "a", name, handed) for asked in (still, changed)]
                self.assertEqual(told[0], told[1])
                if rng.random() < 0.3:
                    changed.change("a", rng.choice(others))
                    changes += 1
                self.assertEqual(still.names_held(), changed.names_held())
                names = [name for name in still.names_held() if still.kind_of(name) == ("a", face[0][0])]
                if len(names) > 1:
                    two = rng.sample(names, 2)
                    self.assertEqual(still.alike_held(*two), changed.alike_held(*two))
        self.assertGreater(changes, 100)


def outcome(call, *handed):
    """What a call tells, or the class of its refusal."""
    try:
        return call(*handed)
    except (OutOfPlace, Refused) as refusal:
        return type(refusal)


if __name__ == "__main__":
    unittest.main()
