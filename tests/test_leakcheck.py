import itertools
import random
import unittest

from sameface.alike import classes_of
from sameface.contexts import first_context
from sameface.errors import BadFace, BadMaking, BadPaper, OutOfPlace
from sameface.facetext import read_face
from sameface.fewer import fewer_face, fewer_making
from sameface.leakcheck import check_leaks, leak_paper
from sameface.leaks import leaks
from sameface.makingtext import read_making
from tests.helpers import FACE, MAKING, ODD_THINGS, FieldsCase, Plainly, chance_face, chance_making, deep_thing, spoilt
from tests.test_leaks import COUNTS, COUNTS_MAKING, SAFE, SAFE_MAKING
from tests.test_related import BOX, MARKED, WHOLE

SEE = (("see", 0, ()),)

# "odd" tells of b alone whether it is odd; a is turned into b; "far" comes to a of 2 and 3.
TWO = read_face("hidden a b\nfar 2 : a\nnear 2 : a\nodd b : 2\nsee a : 4\nturn a : b")
TWO_MAKING = read_making(
    TWO,
    "shape a 4\nshape b 4\nfar give plus 2 in 0 0\nnear give in 0 0\nodd give in 0 0\nsee give in 0 0\n"
    "turn give in 0 0",
)


def grouped(face, making, kind):
    """The classes of a kind as [54] has them."""
    return tuple(sorted(tuple(sorted(members)) for members in classes_of(face, making, kind)))


def with_part(paper, place, thing):
    """A paper with a thing in the place of the one at some place of its."""
    if not place:
        return thing
    at, *behind = place
    return paper[:at] + (with_part(paper[at], behind, thing),) + paper[at + 1 :]


def plain_fault(face, making, names, paper):
    """The place of the BadPaper that is due, found as the document says it; None of a right paper."""
    few_face, few_making = fewer_face(face, names), fewer_making(face, making, names)
    few, whole = Plainly(few_face, few_making), Plainly(face, making)
    if not isinstance(paper, tuple) or len(paper) != 4:
        return ()
    for at, plainly in enumerate((few, few, whole, whole)):
        if not isinstance(paper[at], tuple) or len(paper[at]) != len(face[0]):
            return (at,)
        find = plain_grouping_fault if at in (0, 2) else plain_told_fault
        place = find(plainly, paper, at)
        if place is not None:
            return place
    return None


def plain_grouping_fault(plainly, paper, at):
    for number, kind in enumerate(plainly.face[0]):
        if not is_plain_grouping(plainly, kind, paper[at][number]):
            return (at, number)
    homes = {}
    for kind, grouping in zip(plainly.face[0], paper[at]):
        homes.update({(kind, worth): members for members in grouping for worth in members})

    def told(deed, handed):
        given = plainly.done(0, deed[0], handed)
        return given if given is None or deed[2] not in plainly.things else homes[(deed[2], given)]

    for number, kind in enumerate(plainly.face[0]):
        for deed in plainly.face[1]:
            choices = [plainly.worths(taken) if taken in plainly.things else range(taken) for taken in deed[1]]
            for handed in itertools.product(*choices):
                for place, taken in enumerate(deed[1]):
                    for other in homes[(kind, handed[place])] if taken == kind else ():
                        if told(deed, handed) != told(deed, handed[:place] + (other,) + handed[place + 1 :]):
                            return (at, number)
    return None


def is_plain_grouping(plainly, kind, thing):
    if not isinstance(thing, tuple) or not all(isinstance(members, tuple) and members for members in thing):
        return False
    worths = sorted(plainly.worths(kind))
    if not all(any(repr(worth) == repr(come) for come in worths) for members in thing for worth in members):
        return False
    rising = all(list(members) == sorted(set(members)) for members in thing)
    told = sorted(worth for members in thing for worth in members)
    return rising and list(thing) == sorted(thing) and told == worths


def plain_told_fault(plainly, paper, at):
    for number, kind in enumerate(plainly.face[0]):
        thing = paper[at][number]
        if not isinstance(thing, tuple):
            return (at, number)
        if at == 1:
            due = list(itertools.combinations([members[0] for members in paper[0][number]], 2))
        else:
            due = []
            for two in itertools.combinations(sorted(w for members in paper[0][number] for w in members), 2):
                in_one = [[set(two) <= set(members) for members in paper[part][number]] for part in (0, 2)]
                if any(in_one[0]) and not any(in_one[1]):
                    due.append(two)
        for place in range(max(len(due), len(thing))):
            if place >= min(len(due), len(thing)) or not is_plainly_due(plainly, kind, thing[place], due[place]):
                return (at, number, place)
    return None


def is_plainly_due(plainly, kind, thing, due):
    if not isinstance(thing, tuple) or len(thing) != 3 or repr(thing[:2]) != repr(due):
        return False
    if not isinstance(thing[2], tuple) or not 1 <= len(thing[2]) <= 200:
        return False
    for step in thing[2]:
        steps = [(right, gives) for right, gives in plainly.steps_for(kind) if repr(right) == repr(step)]
        if not steps:
            return False
        kind = steps[0][1]
    return plainly.tells(thing[2], *due)


class LaidTest(FieldsCase):
    def lays(self, face, making, names, paper):
        self.same_form(leak_paper(face, making, names), paper)
        self.assertIsNone(check_leaks(face, making, names, paper))

    def test_all_that_a_deed_shows(self):
        ones = tuple(((number,),) for number in range(4))
        all_in_one = (((0,), (1,), (2,), (3,)),)
        pairs = tuple(((one,), (other,), SEE) for one, other in itertools.combinations(range(4), 2))
        self.lays(BOX, WHOLE, ("see",), ((all_in_one,), ((),), (ones,), (pairs,)))
        # No names, and names of which nothing leaks.
        self.lays(BOX, WHOLE, (), ((ones,), (pairs,), (ones,), ((),)))
        self.lays(BOX, WHOLE, ("add",), (((((0,),),),), ((),), (ones,), ((),)))

    def test_nothing_is_come_to(self):
        ones = tuple(((number,),) for number in range(4))
        self.lays(BOX, WHOLE, ("new",), (((),), ((),), (ones,), ((),)))
        face = read_face("hidden a b\nnew : b\nturn a : b")
        making = read_making(face, "shape a 2\nshape b 2\nnew give 1\nturn give 0")
        self.lays(face, making, ("turn",), (((), (((1,),),)), ((), ()), ((), (((1,),),)), ((), ())))
        self.lays(face, making, ("new",), (((), ()), ((), ()), ((), (((1,),),)), ((), ())))

    def test_of_two_kinds(self):
        # Without "see" and "far" a of 0 and 1 are told apart by way of b; without "odd" b's are alike.
        near = (((0,),), ((1,),))
        way = (("turn", 0, ()), ("odd", 0, ()))
        whole = (((0,),), ((1,),), ((2,),), ((3,),))
        whole_b = (((0,), (2,)), ((1,), (3,)))
        parted = ((((0,), (1,), way),), (((0,), (1,), (("odd", 0, ()),)),))
        self.lays(TWO, TWO_MAKING, ("far", "see"), ((near, near), parted, (whole, whole_b), ((), ())))
        see = (("see", 0, ()),)
        all_parted = tuple(((one,), (other,), see) for one, other in itertools.combinations(range(4), 2))
        leaked = tuple(((one,), (other,), (("odd", 0, ()),)) for one, other in ((0, 1), (0, 3), (1, 2), (2, 3)))
        told = ((whole, (((0,), (1,), (2,), (3,)),)), (all_parted, ()), (whole, whole_b), ((), leaked))
        self.lays(TWO, TWO_MAKING, ("odd",), told)

    def test_numbers_are_those_of_the_fewer_making(self):
        # In the whole b of 4, "big"'s, has number 0; without "big" it is b of 0.
        without, parted, whole, told = leak_paper(SAFE, SAFE_MAKING, ("pry",))
        self.assertEqual(parted[1], (((0,), (1,), (("peek", 0, ()),)),))
        face = read_face("hidden a b\nbig : b\nlow 3 : b\nnew 2 : a\ntold a b : 2")
        making = read_making(
            face,
            "shape a 2\nshape b 4\nbig give 3\nlow give in 0 0\nnew give in 0 0\ntold give times in 0 0 under 0 in 1 0",
        )
        context = (("told", 0, (1,)),)
        self.assertEqual(leak_paper(face, making, ("big",))[1][0], (((0,), (1,), context),))
        self.assertEqual(first_context(face, making, "a", (0,), (1,)), (("told", 0, (0,)),))

    def test_rising_by_worths_not_by_numbers(self):
        face = read_face("hidden a\nnew 3 : a\nsee a : 3")
        making = read_making(face, "shape a 3\nnew give less 2 in 0 0\nsee give same in 0 0 1")
        two = ((((0,), (2,)), ((1,),)),)
        self.lays(face, making, (), (two, ((((0,), (1,), SEE),),), two, ((),)))
        one = ((((0,), (1,), (2,)),),)
        self.lays(face, making, ("see",), (one, ((),), two, ((((0,), (1,), SEE), ((1,), (2,), SEE)),)))

    def test_as_the_document_says(self):
        rng = random.Random(54)
        for step in range(80):
            face = chance_face(rng)
            making = chance_making(rng, face)
            names = [deed[0] for deed in face[1]]
            names = tuple(sorted(rng.sample(names, rng.randrange(len(names)))))
            few_face, few_making = fewer_face(face, names), fewer_making(face, making, names)
            without = tuple(grouped(few_face, few_making, kind) for kind in face[0])
            parted = []
            for kind, grouping in zip(face[0], without):
                pairs = itertools.combinations([members[0] for members in grouping], 2)
                parted.append(tuple((*two, first_context(few_face, few_making, kind, *two)) for two in pairs))
            whole = tuple(grouped(face, making, kind) for kind in face[0])
            self.lays(face, making, names, (without, tuple(parted), whole, leaks(face, making, names)))


class CheckTest(FieldsCase):
    def setUp(self):
        self.face, self.making, self.names = TWO, TWO_MAKING, ("odd",)

    def bad(self, due, paper):
        self.refuses(BadPaper, {"place": due}, check_leaks, self.face, self.making, self.names, paper)

    def bad_part(self, due, place, thing):
        paper = leak_paper(self.face, self.making, self.names)
        self.bad(due, with_part(paper, place, thing))

    def right(self, place, thing):
        paper = with_part(leak_paper(self.face, self.making, self.names), place, thing)
        self.assertIsNone(check_leaks(self.face, self.making, self.names, paper))

    def test_no_tuple_of_four(self):
        paper = leak_paper(TWO, TWO_MAKING, ("odd",))
        for thing in (*ODD_THINGS, 1, "abcd", (), paper[:3], (*paper, ()), list(paper), deep_thing(50000)):
            self.bad((), thing)

    def test_parts(self):
        for at in range(4):
            for thing in (*ODD_THINGS, 0, "ab", (), ((),), ((), (), ()), [(), ()], deep_thing(50000)):
                self.bad_part((at,), (at,), thing)

    def test_part_by_part(self):
        paper = leak_paper(TWO, TWO_MAKING, ("odd",))
        self.bad((0,), (None, None, None, None))
        self.bad((0, 0), ((None, None), None, None, None))
        self.bad((0, 1), ((paper[0][0], None), None, None, None))
        self.bad((1,), (paper[0], None, None, None))
        self.bad((1, 0), (paper[0], (None, None), None, None))
        self.bad((1, 0, 0), (paper[0], ((None,), None), None, None))
        self.bad((1, 1), (paper[0], (paper[1][0], None), None, None))
        self.bad((1, 1, 0), (paper[0], (paper[1][0], (None,)), None, None))
        self.bad((2,), (*paper[:2], None, None))
        self.bad((2, 1), (*paper[:2], (paper[2][0], ()), None))
        self.bad((3,), (*paper[:3], None))
        self.bad((3, 0, 0), (*paper[:3], ((None,), None)))
        self.bad((3, 1), (*paper[:3], ((), None)))

    def test_no_classes(self):
        right = (((0,), (2,)), ((1,), (3,)))
        self.right((2, 1), right)
        one, two = right
        for thing in (
            *ODD_THINGS,
            0,
            "ab",
            (),
            list(right),
            (list(one), two),
            (one,),
            (two, one),
            (one, two, ()),
            ((), one, two),
            (one, two, two),
            (one, one, two),
            (one, ((1,), (2,), (3,))),
            (one, ((1,),)),
            (one, ((3,), (1,))),
            (one, ((1,), (1,), (3,))),
            (one, ((1,), (3,), (4,))),
            (one, ((1,), (3,), (-1,))),
            (one, ((True,), (3,))),
            (((False,), (2,)), two),
            (one, ((1.0,), (3,))),
            (one, ([1], (3,))),
            (one, (1, (3,))),
            (one, ((1, 0), (3,))),
            (one, ((), (1,), (3,))),
            (one, ((1,), (3,), None)),
            (one, "ab"),
            (one, ({}, (3,))),
            deep_thing(50000),
        ):
            self.bad_part((2, 1), (2, 1), thing)
            self.bad_part((0, 1), (0, 1), thing)
        # Of a worth, (2,), that isn't come to without "far".
        self.names = ("far", "see")
        self.bad_part((0, 0), (0, 0), (((0,),), ((1,),), ((2,),)))

    def test_kept(self):
        # By a number: "odd" tells (0,) and (1,) of b apart.
        self.bad_part((2, 1), (2, 1), (((0,), (1,), (2,), (3,)),))
        self.bad_part((2, 1), (2, 1), (((0,), (1,)), ((2,), (3,))))
        # By a class: "turn" gives b's of two classes, "see" left aside.
        face = read_face("hidden a b\nnew 2 : a\nodd b : 2\nturn a : b")
        making = read_making(face, "shape a 2\nshape b 2\nnew give in 0 0\nodd give in 0 0\nturn give in 0 0")
        self.face, self.making, self.names = face, making, ()
        self.bad_part((2, 0), (2, 0), (((0,), (1,)),))
        self.bad_part((0, 0), (0, 0), (((0,), (1,)),))
        # By a refusal.
        face = read_face("hidden a\nbar a : a\nnew 2 : a")
        making = read_making(face, "shape a 2\nbar when in 0 0 refuse give 0\nnew give in 0 0")
        self.face, self.making, self.names = face, making, ("bar",)
        self.right((), leak_paper(face, making, ("bar",)))
        self.bad_part((2, 0), (2, 0), (((0,), (1,)),))

    def test_kept_at_each_place(self):
        face = read_face("hidden a b\nbeside a b 2 : 2\nnew 2 : a\nold 2 : b")
        making = read_making(
            face, "shape a 2\nshape b 2\nbeside give times in 2 0 in 1 0\nnew give in 0 0\nold give in 0 0"
        )
        self.face, self.making, self.names = face, making, ()
        self.bad_part((2, 1), (2, 1), (((0,), (1,)),))
        making = read_making(
            face, "shape a 2\nshape b 2\nbeside give times in 0 0 in 1 0\nnew give in 0 0\nold give in 0 0"
        )
        self.making = making
        self.bad_part((2, 0), (2,), ((((0,), (1,)),), (((0,), (1,)),)))
        self.bad_part((2, 1), (2, 1), (((0,), (1,)),))
        # a and a deed that takes it twice.
        face = read_face("hidden a\nless a a : 2\nnew 3 : a")
        making = read_making(face, "shape a 3\nless give under in 0 0 in 1 0\nnew give in 0 0")
        self.face, self.making = face, making
        self.bad_part((0, 0), (0, 0), (((0,), (1,)), ((2,),)))
        # Which kind it is of which it isn't kept is the one that is handed in, not the one that is given.
        face = read_face("hidden a b\nmake b : a\nold 2 : b\nsee a : 2")
        making = read_making(face, "shape a 2\nshape b 2\nmake give in 0 0\nold give in 0 0\nsee give in 0 0")
        self.face, self.making = face, making
        self.bad_part((2, 1), (2, 1), (((0,), (1,)),))

    def test_all_are_classes_ahead_of_any_that_isnt_kept(self):
        paper = leak_paper(TWO, TWO_MAKING, ("odd",))
        coarse = (((0,), (1,), (2,), (3,)),)
        self.bad((2, 1), with_part(with_part(paper, (2, 0), coarse), (2, 1), ()))
        self.bad((2, 0), with_part(with_part(paper, (2, 0), coarse), (2, 1), coarse))
        self.bad((0, 1), with_part(with_part(paper, (0, 0), coarse), (0, 1), ()))
        self.bad((0, 0), with_part(paper, (0, 0), coarse))

    def test_finer_ones_that_are_kept(self):
        # Without "far" a of 2, 3 aren't come to, nor b of 2, 3: these may stand in classes of their own.
        self.names = ("far",)
        self.right((2, 1), (((0,),), ((1,),), ((2,),), ((3,),)))
        self.bad_part((2, 0), (2, 0), (((0,),), ((1,),), ((2,), (3,))))
        # Without "odd" (0,) and (2,) of b are in one class: in two of WHOLE they are due, and no steps tell them apart.
        self.names = ("odd",)
        paper = leak_paper(TWO, TWO_MAKING, ("odd",))
        self.bad((3, 1, 1), with_part(paper, (2, 1), (((0,),), ((1,),), ((2,),), ((3,),))))
        leaked = [((one,), (other,), (("odd", 0, ()),)) for one, other in itertools.combinations(range(4), 2)]
        finer = with_part(paper, (2, 1), (((0,),), ((1,),), ((2,),), ((3,),)))
        self.bad((3, 1, 1), with_part(finer, (3, 1), tuple(leaked)))
        # And in a finer WITHOUT each two are due, and none of them can be told apart.
        finer = with_part(paper, (0, 1), (((0,),), ((1,),), ((2,),), ((3,),)))
        self.bad((1, 1, 0), finer)
        self.bad((1, 1, 0), with_part(finer, (1, 1), tuple(leaked)))

    def test_what_is_due(self):
        paper = leak_paper(TWO, TWO_MAKING, ("odd",))
        for place in ((1, 0), (3, 1)):
            due = paper[place[0]][place[1]]
            for thing in (*ODD_THINGS, 1, "ab", list(due)):
                self.bad_part(place, place, thing)
            for at, (one, other, steps) in enumerate(due):
                for thing in (
                    *ODD_THINGS,
                    "abc",
                    (one, other),
                    (one, other, steps, steps),
                    [one, other, steps],
                    (other, one, steps),
                    (one, one, steps),
                    (list(one), other, steps),
                    (tuple(map(bool, one)), other, steps),
                    (one, tuple(map(bool, other)), steps),
                    (one, (4,), steps),
                    (one, other, list(steps)),
                    (one, other, ()),
                    (one, other, None),
                    (one, other, steps * 2),
                    (one, other, steps[0]),
                    (one, other, (list(steps[0]),)),
                    (one, other, ((steps[0][0], False, ()),)),
                    (one, other, ((steps[0][0], 0, (0,)),)),
                    (one, other, (("turn", 0, ()),)),
                    (one, other, (("none", 0, ()),)),
                    (one, other, deep_thing(50000)),
                ):
                    self.bad_part((*place, at), (*place, at), thing)
                self.bad_part((*place, at), place, due[:at] + due[at + 1 :])
                self.bad_part((*place, at), place, due[:at] + ((one, other, None),) + due[at:])
            self.bad_part((*place, len(due)), place, (*due, due[-1]))
            self.bad_part((*place, len(due)), place, (*due, None))
            self.bad_part((*place, 1), place, due[:1])
            self.bad_part((*place, 0), place, ())
        for place in ((1, 1), (3, 0)):
            self.bad_part((*place, 0), place, (None,))
            self.bad_part(place, place, None)

    def test_kind_by_kind(self):
        # What is said of one kind goes ahead of the next one's, whatever that is.
        paper = leak_paper(TWO, TWO_MAKING, ("odd",))
        self.bad((1, 0, 0), (paper[0], ((), None), *paper[2:]))
        self.bad((3, 0, 0), (*paper[:3], ((None,), None)))

    def test_other_steps_that_tell_them_apart(self):
        self.names = ("far",)
        for steps in (
            (("turn", 0, ()), ("odd", 0, ())),
            (("see", 0, ()),),
        ):
            self.right((1, 0, 0, 2), steps)
        self.bad_part((1, 0, 0), (1, 0, 0, 2), (("turn", 0, ()),))
        # In the whole, and with steps that lean on it.
        self.face, self.making, self.names = COUNTS, COUNTS_MAKING, ("see",)
        self.right((3, 0, 0, 2), (("up", 0, ()), *SEE))
        self.right((3, 0, 0, 2), (("add", 0, (2,)), ("up", 0, ()), *SEE))
        self.bad_part((3, 0, 0), (3, 0, 0, 2), (("add", 0, (3,)), *SEE))

    def test_two_hundred_steps_and_one_more(self):
        self.face, self.making, self.names = COUNTS, COUNTS_MAKING, ("see",)
        up = ("up", 0, ())
        self.right((3, 0, 0, 2), (up,) * 199 + SEE)
        self.bad_part((3, 0, 0), (3, 0, 0, 2), (up,) * 200 + SEE)
        self.names = ("add",)
        self.right((1, 0, 0, 2), (up,) * 199 + SEE)
        self.bad_part((1, 0, 0), (1, 0, 0, 2), (up,) * 200 + SEE)

    def test_steps_of_the_names_dont_stand_in_parted(self):
        self.face, self.making, self.names = COUNTS, COUNTS_MAKING, ("up",)
        self.right((1, 0, 0, 2), (("add", 0, (1,)), *SEE))
        self.bad_part((1, 0, 0), (1, 0, 0, 2), (("up", 0, ()), *SEE))

    def test_a_checker_and_the_document(self):
        rng = random.Random(55)
        met = {}
        for step in range(400):
            face = chance_face(rng, 5)
            making = chance_making(rng, face, ((2,), (3,), (2, 2)))
            names = [deed[0] for deed in face[1]]
            names = tuple(sorted(rng.sample(names, rng.randrange(len(names)))))
            paper = leak_paper(face, making, names)
            for again in range(3):
                thing = spoilt(rng, paper)
                place = plain_fault(face, making, names, thing)
                key = None if place is None else (len(place), *place[:1])
                met[key] = met.get(key, 0) + 1
                if place is None:
                    self.assertIsNone(check_leaks(face, making, names, thing))
                else:
                    self.refuses(BadPaper, {"place": place}, check_leaks, face, making, names, thing)
        self.assertGreaterEqual(len(met), 10, met)


class RefusedTest(FieldsCase):
    def test_ahead_of_all(self):
        nothing = {"part": None, "number": None}
        for thing in (*ODD_THINGS, 1, "ab", (), deep_thing(50000)):
            for call, more in ((leak_paper, ()), (check_leaks, (thing,))):
                self.refuses(BadFace, nothing, call, thing, thing, thing, *more)
                self.refuses(BadMaking, nothing, call, FACE, thing, thing, *more)
                if thing != ():
                    self.refuses(OutOfPlace, {}, call, FACE, MAKING, thing, *more)
        for names in (("none",), ("new", "add"), ("add", "add"), ["add"], ("add", "both", "key", "new", "open")):
            self.refuses(OutOfPlace, {}, leak_paper, FACE, MAKING, names)
            self.refuses(OutOfPlace, {}, check_leaks, FACE, MAKING, names, None)

    def test_marked(self):
        paper = leak_paper(BOX, MARKED, ("see",))
        self.assertIsNone(check_leaks(BOX, MARKED, ("see",), paper))
        self.refuses(BadPaper, {"place": (0, 0)}, check_leaks, BOX, WHOLE, ("see",), paper)


if __name__ == "__main__":
    unittest.main()
