"""What holds between the parts of the program."""

import itertools
import random
import unittest

from sameface.alike import classes_of
from sameface.answering import parts_at, run
from sameface.coming import come_to, first_user
from sameface.contexts import first_context
from sameface.desk import answers
from sameface.doing import done
from sameface.errors import OutOfPlace, Refused, TooGreat
from sameface.facetext import face_text
from sameface.house import House
from sameface.inlining import inlined, put_into
from sameface.leading import leads, need_good
from sameface.leakcheck import check_leaks, leak_paper
from sameface.leaks import is_silent, leaks, leans, needed
from sameface.leastmaking import least_making
from sameface.makings import is_making
from sameface.makingtext import making_text
from sameface.overpaper import come_over, is_same_over
from sameface.related import apart, is_same, least_relation
from sameface.samecheck import check_paper
from sameface.samepaper import same_paper
from tests.helpers import FieldsCase, chance_face, chance_making, chance_program, chance_user, with_more
from tests.modulehelp import PlainOver, chance_module, flat
from tests.test_related import BITS, BOX, MARKED, WHOLE


def same_pairs(rng, many):
    """Faces with two makings that are the same, and aren't one."""
    told = [(BOX, one, other) for one, other in itertools.permutations((WHOLE, BITS, MARKED), 2)]
    while len(told) < many:
        face = chance_face(rng)
        one = chance_making(rng, face)
        other = with_more(rng, face, one, rng.randrange(len(face[0])))
        if is_making(face, other) and is_same(face, one, other):
            told.append((face, one, other))
    return told


class SameMakingsTest(FieldsCase):
    def test_what_is_the_same_of_them(self):
        for face, one, other in same_pairs(random.Random(1), 60):
            self.same_form(least_making(face, one), least_making(face, other))
            self.same_form(needed(face, one), needed(face, other))
            self.assertIsNone(check_paper(face, one, other, same_paper(face, one, other)))
            there, back = leads(face, one, other), leads(face, other, one)
            need_good(face, one, other, there)
            need_good(face, other, one, back)
            for kind in face[0]:
                self.assertEqual(len(classes_of(face, one, kind)), len(classes_of(face, other, kind)))

    def test_led_there_and_back_is_alike(self):
        for face, one, other in same_pairs(random.Random(2), 40):
            there, back = leads(face, one, other), leads(face, other, one)
            for at, kind in enumerate(face[0]):
                worths = come_to(face, one, kind)
                for number, led in enumerate(there[at]):
                    home = worths[back[at][led]]
                    self.assertIsNone(first_context(face, one, kind, worths[number], home))

    def test_least_making_just_of_same_ones(self):
        rng = random.Random(3)
        for step in range(80):
            face = chance_face(rng, 3)
            one, other = [chance_making(rng, face, ((2,), (2, 2))) for place in range(2)]
            self.assertEqual(is_same(face, one, other), least_making(face, one) == least_making(face, other))

    def test_changes_that_nobody_sees(self):
        rng = random.Random(4)
        for face, one, other in same_pairs(random.Random(5), 25):
            still, changed = [House((("a", face, one), ("b", face, other))) for place in range(2)]
            for step in range(30):
                label, (name, takes, gives) = rng.choice("ab"), rng.choice(face[1])
                held = [word for word in still.names_held() if still.kind_of(word)[0] == label]
                handed = tuple(rng.randrange(k) if isinstance(k, int) else rng.choice(held or ["z"]) for k in takes)
                if isinstance(gives, int):
                    told = [self.told(asked.ask_deed, label, name, handed) for asked in (still, changed)]
                else:
                    word = rng.choice("pqrs") + label
                    told = [self.told(asked.give_name, word, label, name, handed) for asked in (still, changed)]
                self.assertEqual(*told)
                changed.change(rng.choice("ab"), rng.choice((one, other)))
                self.assertEqual(still.names_held(), changed.names_held())

    def told(self, call, *handed):
        try:
            return call(*handed)
        except (OutOfPlace, Refused) as refusal:
            return type(refusal)

    def test_programs_answer_the_same(self):
        rng = random.Random(6)
        for step in range(60):
            program = chance_program(rng)
            makings = tuple(chance_making(rng, face) for label, face in program[0])
            others = []
            for (label, face), one in zip(program[0], makings):
                other = with_more(rng, face, one, 0)
                others.append(other if is_making(face, other) and is_same(face, one, other) else one)
            self.assertIsNone(parts_at(program, makings, tuple(others)))


class UnlikeMakingsTest(FieldsCase):
    def test_a_program_shows_what_the_first_user_does(self):
        rng = random.Random(7)
        met = 0
        for step in range(150):
            face = chance_face(rng)
            one, other = [chance_making(rng, face, ((2,), (3,))) for place in range(2)]
            user = apart(face, one, other)
            if user is None or len(user) > 20:
                continue
            rows = []
            names = ["x" + "abcdefghijklmnopqrst"[at] for at in range(len(user))]
            for at, (name, handed) in enumerate(user):
                takes, gives = next(deed[1:] for deed in face[1] if deed[0] == name)
                args = [("number", n) if isinstance(k, int) else ("name", names[n]) for k, n in zip(takes, handed)]
                rows.append(("let", names[at], "use", name, tuple(args)))
            if isinstance(gives, int):
                rows.append(("say", ("name", names[-1])))
            program = ((("use", face),), (), tuple(rows))
            self.assertNotEqual(run(program, (one,), ()), run(program, (other,), ()))
            self.same_form(parts_at(program, (one,), (other,)), ())
            met += 1
        self.assertGreater(met, 20)


class LeaksTest(FieldsCase):
    def test_papers_and_leaks_agree(self):
        rng = random.Random(8)
        for step in range(80):
            face = chance_face(rng)
            making = chance_making(rng, face)
            names = tuple(sorted(rng.sample([deed[0] for deed in face[1]], rng.randrange(len(face[1])))))
            paper = leak_paper(face, making, names)
            self.assertIsNone(check_leaks(face, making, names, paper))
            self.same_form(paper[3], leaks(face, making, names))
            if is_silent(face, making, names):
                self.assertFalse(any(paper[3]))
            for kind, told in zip(face[0], paper[3]):
                for one, other, steps in told:
                    self.assertIs(leans(face, making, names, kind, steps), True)


class ModulesTest(FieldsCase):
    def test_inlined_over_same_makings(self):
        rng = random.Random(9)
        met = 0
        for lower, one, other in same_pairs(rng, 60):
            upper = chance_face(rng, 4)
            module = chance_module(rng, upper, lower, 1)
            self.assertIs(is_same_over(upper, lower, module, one, other), True)
            try:
                first, second = inlined(upper, lower, module, one), inlined(upper, lower, module, other)
            except TooGreat:
                continue
            met += 1
            self.assertIs(is_same(upper, first, second), True)
            self.same_form(least_making(upper, first), least_making(upper, second))
        self.assertGreater(met, 15)

    def test_in_a_house(self):
        # A module over a making, gone through deed by deed, tells what the inlined making tells in a house.
        rng = random.Random(10)
        met = 0
        for step in range(120):
            upper, lower = chance_face(rng, 4), chance_face(rng, 4)
            module, making = chance_module(rng, upper, lower, 2), chance_making(rng, lower, ((2,), (3,)))
            try:
                told = House((("a", upper, inlined(upper, lower, module, making)),))
            except TooGreat:
                continue
            plain = PlainOver(upper, lower, module, making)
            held = {}
            for again in range(20):
                name, takes, gives = rng.choice(upper[1])
                choices = [range(k) if isinstance(k, int) else [n for n in held if held[n][0] == k] for k in takes]
                if not all(choices):
                    continue
                handed = tuple(rng.choice(things) for things in choices)
                given = plain.done(name, tuple(held[t][1] if isinstance(t, str) else t for t in handed))
                if given is None:
                    call = told.ask_deed if isinstance(gives, int) else lambda *more: told.give_name("x", *more)
                    self.refuses(Refused, {}, call, "a", name, handed)
                elif isinstance(gives, int):
                    met += 1
                    self.assertEqual(told.ask_deed("a", name, handed), given)
                else:
                    word = rng.choice("pqrst")
                    told.give_name(word, "a", name, handed)
                    held[word] = (gives, given)
        self.assertGreater(met, 50)

    def test_laid_over_one_another(self):
        rng = random.Random(11)
        met = 0
        for step in range(120):
            top, upper, lower = [chance_face(rng, 4) for place in range(3)]
            first, module = chance_module(rng, top, upper, 1), chance_module(rng, upper, lower, 1)
            making = chance_making(rng, lower, ((2,), (3,)))
            try:
                over = put_into(top, upper, lower, first, module)
                below = inlined(upper, lower, module, making)
            except TooGreat:
                continue
            for kind in top[0]:
                one = [flat(worth) for worth in come_over(top, lower, over, making, kind)]
                other = [flat(worth) for worth in come_over(top, upper, first, below, kind)]
                self.same_form(one, other)
                met += len(one) > 1
        self.assertGreater(met, 10)


class NamesTest(FieldsCase):
    """By other names, in the same order, all is the same."""

    def renamed(self, face):
        def name(word):
            return "q" + word

        def kind(told):
            return told if isinstance(told, int) else name(told)

        deeds = tuple((name(deed), tuple(map(kind, takes)), kind(gives)) for deed, takes, gives in face[1])
        return (tuple(map(name, face[0])), deeds)

    def test_makings(self):
        rng = random.Random(12)
        for step in range(60):
            face = chance_face(rng)
            new = self.renamed(face)
            one, other = chance_making(rng, face), chance_making(rng, face, ((2,), (3,)))
            self.same_form(least_making(face, one), least_making(new, one))
            self.same_form(least_relation(face, one, other), least_relation(new, one, other))
            user = apart(face, one, other)
            renamed = None if user is None else tuple(("q" + name, handed) for name, handed in user)
            self.same_form(apart(new, one, other), renamed)
            self.same_form(needed(new, one), tuple("q" + name for name in needed(face, one)))
            for kind in face[0]:
                self.same_form(come_to(face, one, kind), come_to(new, one, "q" + kind))
                for worth in come_to(face, one, kind):
                    told = tuple(("q" + name, handed) for name, handed in first_user(face, one, kind, worth))
                    self.same_form(first_user(new, one, "q" + kind, worth), told)
            user = chance_user(rng, face, 6)
            if user is not None:
                name, handed = user[0]
                handed = tuple(0 for thing in handed)
                self.same_form(done(new, one, "q" + name, handed), done(face, one, name, handed))

    def test_desks(self):
        rng = random.Random(13)
        for step in range(40):
            face = chance_face(rng)
            making = chance_making(rng, face)
            told = []
            for seen in (face, self.renamed(face)):
                text = making_text(seen, making).replace("\n", " / ")
                begin = f"begin a {face_text(seen)} ; {text}".replace("\n", " / ")
                told.append(answers([begin, f"change a {text}", "same a a", "least a", "looked", "making a"]))
            self.assertEqual(told[0][:5], told[1][:5])
            self.assertEqual(told[0][:2], ["done", "done"])


if __name__ == "__main__":
    unittest.main()
