"""A face and its makings are looked at once, ahead of all, however many rows, worths and deeds are asked of."""

import unittest
from unittest import mock

from sameface import faces, inlining, makings, modules
from sameface import house as sameface_house
from sameface.alike import are_alike, classes_of
from sameface.answering import parts_at, run
from sameface.coming import come_to, first_user, level_of, way_of
from sameface.contexts import first_context, is_telling
from sameface.desk import Desk
from sameface.doing import done
from sameface.fewer import fewer_making
from sameface.house import House
from sameface.inlining import inlined, put_into
from sameface.kinds import is_program, kinds_in, need_program
from sameface.leakcheck import check_leaks, leak_paper
from sameface.leading import is_good, leads, need_good
from sameface.leaks import is_silent, leaks, leans, needed
from sameface.leastmaking import least_making
from sameface.makings import body_of, is_worth, shape_of, worths_of
from sameface.makingtext import making_text
from sameface.modules import done_over, flat_over, is_module, need_module
from sameface.moduletext import module_text
from sameface.overpaper import are_lifted, check_over, come_over, is_same_over, over_paper
from sameface.progtext import program_text
from sameface.related import apart, is_same, keeps, least_relation
from sameface.running import outcome
from sameface.samecheck import check_paper
from sameface.samepaper import same_paper
from tests.helpers import FACE, MAKING
from tests.test_overpaper import SHELF, SHELF_MODULE
from tests.test_related import BITS, BOX, WHOLE

USER = (("new", ()), ("add", (0, 1)), ("add", (1, 0)), ("key", ()), ("open", (2, 3)))
STEPS = (("add", 0, (0,)), ("open", 0, (0,)))
EMPTY = ((), ())
LEADING = (tuple(range(12)), (0,))

# What is asked of a face and a making, and of a face and two makings, with all that is handed in behind.
OF_ONE = (
    (shape_of, "bag"),
    (worths_of, "bag"),
    (is_worth, "bag", (0, 0)),
    (body_of, "add"),
    (making_text,),
    (done, "new", ()),
    (outcome, USER),
    (come_to, "bag"),
    (level_of, "bag", (3, 1)),
    (way_of, "bag", (3, 1)),
    (first_user, "bag", (3, 1)),
    (are_alike, "bag", (3, 1), (0, 0)),
    (classes_of, "bag"),
    (first_context, "bag", (3, 1), (0, 0)),
    (is_telling, "bag", (3, 1), (0, 0), STEPS),
    (least_making,),
    (fewer_making, ("add",)),
    (leaks, ("open",)),
    (leans, ("open",), "bag", STEPS),
    (is_silent, ("open",)),
    (needed,),
    (leak_paper, ("open",)),
    (check_leaks, ("open",), leak_paper(FACE, MAKING, ("open",))),
)
OF_TWO = (
    (least_relation,),
    (is_same,),
    (apart,),
    (keeps, EMPTY, "add"),
    (same_paper,),
    (check_paper, ("apart", USER)),
    (check_paper, ("same", EMPTY)),
    (leads,),
    (is_good, LEADING),
    (need_good, LEADING),
)


SHELVED = (1, (2,))
PAPER = over_paper(SHELF, BOX, SHELF_MODULE, WHOLE, BITS)
RELATION = PAPER[1][1]

# What is asked of two faces and a module, then of one making or of two, with all that is handed in behind.
OVER_NONE = ((is_module,), (need_module,), (module_text,))
OVER_ONE = (
    (done_over, "peek", (SHELVED,)),
    (flat_over, "shelf", SHELVED),
    (inlined,),
    (come_over, "shelf"),
)
OVER_TWO = (
    (is_same_over,),
    (are_lifted, RELATION, "shelf", SHELVED, (1, (1, 0))),
    (over_paper,),
    (check_over, PAPER),
)


class LooksTest(unittest.TestCase):
    def looks_over(self, call, *handed):
        """The same, and how often a module is; what comes of putting one into another is looked at besides."""
        module_looks = mock.patch.object(modules, "module_fault", wraps=modules.module_fault)
        result_looks = mock.patch.object(inlining, "module_fault", wraps=modules.module_fault)
        with module_looks as of_module, result_looks as of_result:
            told = self.looks(call, *handed)
        self.assertEqual(of_result.call_count, 1 if call in (inlined, put_into) else 0)
        return *told, of_module.call_count

    def test_of_modules(self):
        for number, calls in enumerate((OVER_NONE, OVER_ONE, OVER_TWO)):
            for call, *more in calls:
                handed = [SHELF, BOX, SHELF_MODULE, *[WHOLE, BITS][:number], *more]
                self.assertEqual(self.looks_over(call, *handed), (2, number, 1), call)
        self.assertEqual(self.looks_over(put_into, SHELF, BOX, BOX, SHELF_MODULE, WHOLE), (3, 0, 2))

    def test_of_a_house(self):
        uses = (("a", BOX, WHOLE), ("b", BOX, BITS))
        with mock.patch.object(sameface_house, "making_fault", wraps=makings.making_fault) as of_making:
            self.assertEqual(self.looks(House, uses), (2, 0))
            self.assertEqual(of_making.call_count, 2)
        house = House(uses)
        self.assertEqual(self.looks(house.give_name, "x", "a", "new", ()), (0, 0))
        self.assertEqual(self.looks(house.ask_deed, "a", "see", ("x",)), (0, 0))
        self.assertEqual(self.looks(house.alike_held, "x", "x"), (0, 0))
        self.assertEqual(self.looks(house.change, "a", BITS), (0, 1))

    def test_of_a_desk(self):
        desk = Desk()
        begin = "begin a hidden a / new : a / see a : 2 ; shape a 2 / new give 0 / see give 1"
        self.assertEqual(self.looks(desk.say, begin), (1, 0))
        self.assertEqual(self.looks(desk.say, "x = a new"), (0, 0))
        self.assertEqual(self.looks(desk.say, "ask a see x"), (0, 0))
        self.assertEqual(self.looks(desk.say, "change a shape a 2 / new give 1 / see give 1"), (0, 1))
        self.assertEqual(self.looks(desk.say, "least a"), (1, 1))
        self.assertEqual(self.looks(desk.say, "same a a"), (1, 2))

    def looks(self, call, *handed):
        """How often a face, and how often a making is looked at."""
        face_looks = mock.patch.object(faces, "face_fault", wraps=faces.face_fault)
        making_looks = mock.patch.object(makings, "making_fault", wraps=makings.making_fault)
        with face_looks as of_face, making_looks as of_making:
            try:
                call(*handed)
            except ValueError:
                self.assertIs(call, check_paper)
        return of_face.call_count, of_making.call_count

    def test_of_one_making(self):
        for call, *more in OF_ONE:
            self.assertEqual(self.looks(call, FACE, MAKING, *more), (1, 1), call)

    def test_of_programs(self):
        program = ((("x", FACE), ("y", FACE)), (2, 3), (("let", "a", "x", "new", ()),) + (("say", ("input", 0)),) * 9)
        for call in (need_program, is_program, kinds_in, program_text):
            self.assertEqual(self.looks(call, program), (2, 0), call)
        self.assertEqual(self.looks(run, program, (MAKING, MAKING), (1, 2)), (2, 2))
        self.assertEqual(self.looks(parts_at, program, (MAKING, MAKING), (MAKING, MAKING)), (2, 4))

    def test_of_two_makings(self):
        for call, *more in OF_TWO:
            self.assertEqual(self.looks(call, FACE, MAKING, MAKING, *more), (1, 2), call)


if __name__ == "__main__":
    unittest.main()
