import random
import re
import unittest

from sameface.desk import Desk, answers
from sameface.facetext import face_text
from sameface.makingtext import making_text
from sameface.related import apart
from sameface.usertext import user_text
from tests.helpers import ODD_THINGS, FieldsCase, deep_thing
from tests.test_house import CARDS, CARDS_MAKING
from tests.test_related import BITS, BOX, FULL, MARKED, ODD, THIRTEEN, WHEELS, WHOLE, wheels


def in_a_line(text):
    return text.replace("\n", " / ")


def use(label, face, making):
    return f"{label} {in_a_line(face_text(face))} ; {in_a_line(making_text(face, making))}"


def change(label, making, face=BOX):
    return f"change {label} {in_a_line(making_text(face, making))}"


BEGIN = f"begin {use('box', BOX, WHOLE)}"
FOUR = "begin " + " ; ".join(
    [use("box", BOX, WHOLE), use("cards", CARDS, CARDS_MAKING), use("full", BOX, FULL), use("bits", BOX, BITS)]
)
# Two lines of each sort that a house is needed for.
LINES = ("x = box new", "x = box add x 1", "drop x", "change box ", "ask box see x", "ask box see", "names", "face box")
LINES += ("making box", "alike x x", "same box box", "least box", "needed box", "looked")


class DeskCase(FieldsCase):
    def said(self, *pairs):
        """Lines and their answers, to a new desk."""
        lines = [line for line, answer in pairs]
        self.same_form(answers(lines), [answer for line, answer in pairs])
        desk = Desk()
        for line, answer in pairs:
            self.same_form(desk.say(line), answer)

    def behind(self, *pairs, begin=FOUR):
        self.said((begin, "done"), *pairs)

    def no_lines(self, *lines):
        for line in lines:
            self.said((line, "no line"))
            self.behind((line, "no line"))


class DoneTest(DeskCase):
    def test_begin(self):
        self.said((BEGIN, "done"), ("names", "none"), ("face box", in_a_line(face_text(BOX))))
        self.behind(("making cards", in_a_line(making_text(CARDS, CARDS_MAKING))))
        self.behind(("face cards", in_a_line(face_text(CARDS))))
        # A new house each time.
        self.behind(("x = box new", "done"), (change("box", BITS), "done"), (BEGIN, "done"), ("names", "none"))
        self.behind((change("box", BITS), "done"), (BEGIN, "done"), ("looked", "0"))
        self.behind((BEGIN, "done"), ("face cards", "refused outofplace"))

    def test_names(self):
        self.behind(
            ("names", "none"),
            ("b = box new", "done"),
            ("names", "b box box"),
            ("deck = cards new", "done"),
            ("card = cards draw deck", "done"),
            ("a = full new", "done"),
            ("names", "a full box, b box box, card cards card, deck cards deck"),
            ("drop b", "done"),
            ("names", "a full box, card cards card, deck cards deck"),
            ("drop b", "refused outofplace"),
            ("deck = cards cut deck 1", "done"),
            ("drop a", "done"),
            ("drop card", "done"),
            ("drop deck", "done"),
            ("names", "none"),
        )

    def test_ask(self):
        self.behind(
            ("b = box new", "done"),
            ("ask box see b", "0"),
            ("b = box add b 2", "done"),
            ("ask box see b", "2"),
            ("b = box add b 2", "done"),
            ("ask box see b", "0"),
            ("d = cards new", "done"),
            ("c = cards draw d", "done"),
            ("ask cards less c c", "0"),
            ("ask cards pip c", "3"),
        )

    def test_refused_deeds(self):
        self.behind(
            ("b = full new", "done"),
            ("b = full add b 2", "done"),
            ("b = full add b 2", "refused refused"),
            ("c = full add b 2", "refused refused"),
            ("ask full see b", "2"),
            ("names", "b full box"),
        )

    def test_things(self):
        self.behind(
            ("b = box new", "done"),
            # Too many, too few, none that can be handed.
            ("c = box new b", "refused outofplace"),
            ("c = box new 8 8 8 8 8 8 8 8 8 8 8 8", "refused outofplace"),
            ("c = box add", "refused outofplace"),
            ("c = box add b", "refused outofplace"),
            ("c = box add b 3", "refused outofplace"),
            ("c = box add b 8", "refused outofplace"),
            ("c = box add b b", "refused outofplace"),
            ("c = box add 1 1", "refused outofplace"),
            ("c = box add 1 b", "refused outofplace"),
            ("c = box add c 1", "refused outofplace"),
            ("c = full add b 1", "refused outofplace"),
            ("c = none new", "refused outofplace"),
            ("c = box none", "refused outofplace"),
            ("c = box see b", "refused outofplace"),
            ("ask box see", "refused outofplace"),
            ("ask box see b b", "refused outofplace"),
            ("ask box see 0", "refused outofplace"),
            ("ask box new", "refused outofplace"),
            ("ask none see b", "refused outofplace"),
            ("ask box none b", "refused outofplace"),
            ("ask bits see b", "refused outofplace"),
            ("names", "b box box"),
        )

    def test_any_first_word_may_be_a_name(self):
        for word in "begin drop change ask names face making alike same least needed looked".split(" "):
            self.behind((f"{word} = box new", "done"), ("names", f"{word} box box"), (f"drop {word}", "done"))
            self.said((f"{word} = box new", "no house"))
        self.no_lines("begin =", "ask = box", "names = box New", "drop = a", "change = 1 new", "looked =")

    def test_change(self):
        self.behind(
            ("b = box new", "done"),
            ("b = box add b 1", "done"),
            (change("box", BITS), "done"),
            ("making box", in_a_line(making_text(BOX, BITS))),
            ("ask box see b", "1"),
            ("looked", "1"),
            (change("box", MARKED), "done"),
            ("b = box add b 1", "done"),
            (change("box", WHOLE), "done"),
            ("ask box see b", "2"),
            ("looked", "3"),
            (change("box", WHOLE), "done"),
            ("looked", "4"),
            (change("box", WHOLE), "done"),
            ("looked", "4"),
        )

    def test_change_refused(self):
        full, odd = [in_a_line(user_text(BOX, apart(BOX, WHOLE, making))) for making in (FULL, ODD)]
        self.assertEqual(odd, "new / add 0 1 / add 1 2 / see 2")
        self.behind(
            ("b = box new", "done"),
            (change("box", FULL), f"refused toldapart {full}"),
            (change("box", ODD), f"refused toldapart {odd}"),
            ("looked", "2"),
            ("making box", in_a_line(making_text(BOX, WHOLE))),
            (change("none", BITS), "refused outofplace"),
            ("change none ", "refused outofplace"),
            ("change none ?", "refused outofplace"),
            ("change box ", "refused badrow 1 0"),
            ("change box ?", "refused badrow 1 1"),
            ("change box shape box 4", "refused badrow 2 1"),
            ("change box shape box 4 / add", "refused badrow 2 2"),
            ("change box shape box  4", "refused badrow 1 0"),
            ("change box  shape box 4", "refused badrow 1 0"),
            ("change box shape box 4 /", "refused badrow 1 4"),
            ("change box shape box 4/ add", "refused badrow 1 3"),
            ("change box shape box 4 / / add", "refused badrow 2 1"),
            (change("box", WHOLE) + " / ", "refused badrow 5 0"),
            (change("box", CARDS_MAKING, CARDS), "refused badrow 1 2"),
            ("looked", "2"),
        )

    def test_too_great(self):
        last = "same plus in 0 0 times 8 in 0 1 11"
        twelve = f"give if {last} 0 plus in 0 0 1 , if {last} 0 if same in 0 0 7 1 in 0 1"
        one, great = wheels(THIRTEEN, 2), wheels(("8 2", twelve, "0 , 0"), 2)
        begin = f"begin {use('a', WHEELS, one)} ; {use('b', WHEELS, great)}"
        self.behind(
            (change("a", great, WHEELS), "refused toogreat"),
            ("looked", "0"),
            ("same a b", "refused toogreat"),
            ("same a a", "yes"),
            begin=begin,
        )

    def test_face_and_making(self):
        for label in ("none", "x", "new"):
            for word in ("face", "making", "least", "needed"):
                self.behind((f"{word} {label}", "refused outofplace"))

    def test_alike(self):
        self.behind(
            ("a = box new", "done"),
            ("b = box add a 2", "done"),
            ("c = box add b 2", "done"),
            ("alike a b", "no"),
            ("alike a c", "yes"),
            ("alike a a", "yes"),
            ("d = cards new", "done"),
            ("e = cards draw d", "done"),
            ("alike a d", "refused outofplace"),
            ("alike d e", "refused outofplace"),
            ("alike a none", "refused outofplace"),
            ("alike none a", "refused outofplace"),
        )

    def test_same(self):
        self.behind(
            ("same box bits", "yes"),
            ("same bits box", "yes"),
            ("same box box", "yes"),
            ("same box full", in_a_line(user_text(BOX, apart(BOX, WHOLE, FULL)))),
            ("same full bits", in_a_line(user_text(BOX, apart(BOX, FULL, BITS)))),
            ("same box cards", "refused outofplace"),
            ("same cards box", "refused outofplace"),
            ("same cards cards", "yes"),
            ("same box none", "refused outofplace"),
            ("same none box", "refused outofplace"),
            ("looked", "0"),
        )

    def test_least_and_needed(self):
        self.behind(
            ("least box", "4"),
            ("least cards", "4 4"),
            ("needed box", "add new see"),
            ("needed full", "add new"),
        )
        begin = "begin a hidden a b / new : a / see b : 2 ; shape a 2 / shape b 2 / new give 1 / see give 0"
        self.behind(("least a", "1 0"), ("needed a", "new"), begin=begin)


class BeginTest(DeskCase):
    def test_texts(self):
        face, making = in_a_line(face_text(BOX)), in_a_line(making_text(BOX, WHOLE))
        for line, answer in (
            (f"begin a {face} ; ", "refused badrow 1 0"),
            ("begin a  ; ", "refused badrow 1 0"),
            (f"begin a  ; {making}", "refused badrow 1 0"),
            ("begin a ? ; ?", "refused badrow 1 1"),
            (f"begin a  {face} ; {making}", "refused badrow 1 0"),
            (f"begin a {face} ;  {making}", "refused badrow 1 0"),
            (f"begin a {face} ; {making} ", "refused badrow 4 0"),
            (f"begin a {face} ; {making} ;", f"refused badrow 4 {len(making.split(' / ')[3].split(' ')) + 1}"),
            (f"begin a {face} / ; {making}", "refused badrow 4 5"),
            (f"begin a hidden box ; {making}", "refused badrow 2 1"),
            (f"begin a {face} ; {making} / x", "refused badrow 5 0"),
            # Face by face and making by making, in order; then the uses.
            (f"begin a {face} ; ? ; b ? ; {making}", "refused badrow 1 1"),
            (f"begin a {face} ; shape box 4 ; b ? ; {making}", "refused badrow 2 1"),
            (f"begin a {face} ; {making} ; a hidden box ; {making}", "refused badrow 2 1"),
            (f"begin a {face} ; {making} ; a {face} ; shape box 4 / add", "refused badrow 2 2"),
            (f"begin a {face} ; {making} ; a {face} ; {making}", "refused baduse 1"),
            (f"begin a {face} ; {making} ; b {face} ; {making} ; a {face} ; {making}", "refused baduse 2"),
            ("begin " + " ; ".join(f"{label} {face} ; {making}" for label in "abcd"), "done"),
            ("begin " + " ; ".join(f"{label} {face} ; {making}" for label in "abcde"), "refused baduse -"),
            ("begin " + " ; ".join(f"{label} {face} ; {making}" for label in "abcda"), "refused baduse -"),
            ("begin " + " ; ".join(f"{label} {face} ; {making}" for label in "abca"), "refused baduse 3"),
        ):
            with self.subTest(line):
                self.said((line, answer))
                if answer != "done":
                    # The house that is there stays.
                    self.behind(("x = box new", "done"), (line, answer), ("names", "x box box"))
                    self.said((line, answer), ("names", "no house"))

    def test_pieces_that_lack(self):
        face, making = in_a_line(face_text(BOX)), in_a_line(making_text(BOX, WHOLE))
        self.no_lines(
            "begin",
            "begin ",
            "begin a",
            f"begin a {face}",
            f"begin a {face} ;",
            f"begin a {face}; {making}",
            f"begin a {face} ; {making} ; b {face}",
            f"begin a {face} ; {making} ; ",
            f"begin a {face} ; {making} ; {making}",
            f"begin {face} ; {making} ; {making}",
            f"begin a ; {making}",
            f"begin A {face} ; {making}",
            f"begin  a {face} ; {making}",
            f"begin 1 {face} ; {making}",
            f"begin abcdefghi {face} ; {making}",
            f"begin ; {making}",
            f"begin  ; {making}",
            f"begin a {face} ; {making} ; B {face} ; {making}",
            f"begin a {face} ; {making} ; b ; {making}",
            f"begin a ? ; ? ; b ; {making}",
            f"Begin a {face} ; {making}",
            f" begin a {face} ; {making}",
        )


class NoLineTest(DeskCase):
    def test_no_texts(self):
        self.no_lines(*ODD_THINGS, 0, (), ("names",), deep_thing(50000))

    def test_line_feeds(self):
        self.no_lines("names\n", "\nnames", "\n", "x = box new\n", "drop\nx", "change box \n")
        self.no_lines(BEGIN + "\n", BEGIN.replace(" / ", "\n"))

    def test_words(self):
        self.no_lines(
            "",
            " ",
            "x",
            "x y",
            "Names",
            "name",
            "names ",
            " names",
            "names x",
            "looked 1",
            "looked ",
            "drop",
            "drop ",
            "drop 1",
            "drop X",
            "drop x y",
            "drop  x",
            "drop x ",
            "drop abcdefghi",
            "face",
            "face 1",
            "face box box",
            "making",
            "making Box",
            "making box box",
            "least",
            "least box box",
            "needed",
            "needed box x",
            "alike",
            "alike x",
            "alike x y z",
            "alike x 1",
            "alike x  y",
            "same",
            "same box",
            "same box box box",
            "same box 1",
            "ask",
            "ask box",
            "ask box ",
            "ask box 1",
            "ask Box see",
            "ask box see 9",
            "ask box see 10",
            "ask box see -1",
            "ask box see X",
            "ask box see x ",
            "ask box  see x",
            "ask box see 01",
            "ask box see $0",
            "ask box see abcdefghi",
            "x =",
            "x = ",
            "x = box",
            "x = box ",
            "x = box new ",
            "x =  box new",
            "x  = box new",
            " = box new",
            "= box new",
            "X = box new",
            "1 = box new",
            "abcdefghi = box new",
            "x = Box new",
            "x = box 1",
            "x = 1 new",
            "x = box add x 9",
            "x = box add x y z 9",
            "x == box new",
            "x=box new",
            "change",
            "change ",
            "change box",
            "change  box",
            "change 1 x",
            "change Box x",
            "change abcdefghi x",
            "say x",
        )

    def test_as_the_document_says(self):
        # Words by chance: which are a line is told by patterns.
        name, thing = "[a-z]{1,8}", "([a-z]{1,8}|[0-8])"
        lines = "drop N|ask N N( T)*|names|face N|making N|alike N N|same N N|least N|needed N|looked"
        lines = lines.replace("N", name).replace("T", thing)
        words = "begin drop change ask names face making alike same least needed looked".split(" ")
        others = "= = ; / a a x x box 8 9 0 A abcdefghi 10 :".split(" ") + [""]
        rng = random.Random(91)
        met = 0
        for step in range(20000):
            told = [rng.choice(words if rng.random() < 0.7 else others)]
            told += [rng.choice(others) for place in range(rng.randrange(7))]
            line = " ".join(told)
            pieces = line[6:].split(" ; ")
            if told[1:2] == ["="]:
                due = re.fullmatch(f"{name} = {name} {name}( {thing})*", line)
            elif told[0] == "change":
                due = re.fullmatch(f"change {name} .*", line)
            elif told[0] == "begin":
                due = len(told) > 1 and len(pieces) % 2 == 0 and all(re.match(f"{name} ", p) for p in pieces[::2])
            else:
                due = re.fullmatch(lines, line)
            met += bool(due)
            self.assertEqual(Desk().say(line) != "no line", bool(due), line)
        self.assertGreater(met, 500)

    def test_any_number_of_things(self):
        self.behind(("x = box add " + " ".join(["x", "0", "8"] * 40), "refused outofplace"))
        self.said(("x = box add " + " ".join(["x", "0", "8"] * 40), "no house"))
        self.no_lines("x = box add " + " ".join(["x", "0", "9"] * 40))

    def test_no_house(self):
        for line in LINES:
            self.said((line, "no house"), (line, "no house"))
        self.said(*[(line, "no house") for line in LINES], (BEGIN, "done"), ("names", "none"))
        # A begin that is refused brings none.
        self.said(("begin a  ; ", "refused badrow 1 0"), ("names", "no house"), ("x", "no line"))


class DeskTest(DeskCase):
    def test_desks_are_apart(self):
        one, other = Desk(), Desk()
        self.assertEqual(one.say(BEGIN), "done")
        self.assertEqual(other.say("names"), "no house")
        self.assertEqual(other.say(FOUR), "done")
        self.assertEqual(one.say("x = box new"), "done")
        self.assertEqual(other.say("names"), "none")
        self.assertEqual(one.say("names"), "x box box")

    def test_answers_are_of_a_new_desk(self):
        self.same_form(answers([]), [])
        self.same_form(answers([BEGIN, "x = box new", "names"]), ["done", "done", "x box box"])
        self.same_form(answers(["names"]), ["no house"])
        desk = Desk()
        desk.say(BEGIN)
        self.same_form(desk.answers(["names", BEGIN, "names"]), ["no house", "done", "none"])
        desk.say("x = box new")
        self.same_form(desk.answers(["names"]), ["no house"])
        self.assertEqual(desk.say("names"), "x box box")
        told = answers([BEGIN, "names"])
        told.clear()
        self.same_form(answers([BEGIN, "names"]), ["done", "none"])

    def test_what_isnt_done_changes_nothing(self):
        rng = random.Random(92)
        desk = Desk()
        desk.say(FOUR)
        lines = [*LINES, "y = cards new", "z = cards draw y", "drop z", "drop q", "w = full new", "w = full add w 2"]
        for step in range(300):
            before = [desk.say(line) for line in ("names", "making box", "looked")]
            line = rng.choice(lines)
            answer = desk.say(line)
            if answer != "done":
                self.assertEqual([desk.say(told) for told in ("names", "making box", "looked")], before, line)


if __name__ == "__main__":
    unittest.main()
