"""A desk: lines that are said to a house, and what they are answered."""

from sameface.errors import BadRow, BadUse, OutOfPlace, Refused, ToldApart, TooGreat
from sameface.facetext import face_rows, read_face
from sameface.house import House
from sameface.leaks import needed
from sameface.leastmaking import least_making
from sameface.lines import in_a_line, told_in
from sameface.makingtext import making_rows, read_making_of
from sameface.related import apart
from sameface.usertext import user_rows

DONE = "done"


def use_of(house, label):
    """The face and the making of a label by now."""
    for called, face, making in house.uses_now():
        if called == label:
            return face, making
    raise OutOfPlace("no use is called so")


def answer_hold(house, told):
    """The answer to "NAME = LABEL DEED THING ..", which are told."""
    name, label, deed, things = told
    house.give_name(name, label, deed, things)
    return DONE


def answer_drop(house, told):
    """The answer to "drop NAME"."""
    house.drop_name(told[0])
    return DONE


def answer_change(house, told):
    """The answer to "change LABEL MAKING"."""
    label, text = told
    face, making = use_of(house, label)
    house.change(label, read_making_of(face, text))
    return DONE


def answer_ask(house, told):
    """The answer to "ask LABEL DEED THING .."."""
    label, deed, things = told
    return str(house.ask_deed(label, deed, things))


def answer_names(house, told):
    """The answer to "names"."""
    rows = []
    for name in house.names_held():
        label, kind = house.kind_of(name)
        rows.append(f"{name} {label} {kind}")
    return ", ".join(rows) if rows else "none"


def answer_face(house, told):
    """The answer to "face LABEL"."""
    face, making = use_of(house, told[0])
    return in_a_line(face_rows(face))


def answer_making(house, told):
    """The answer to "making LABEL"."""
    face, making = use_of(house, told[0])
    return in_a_line(making_rows(face, making))


def answer_alike(house, told):
    """The answer to "alike NAME NAME"."""
    return "yes" if house.alike_held(told[0], told[1]) else "no"


def answer_same(house, told):
    """The answer to "same LABEL LABEL"."""
    face, one = use_of(house, told[0])
    other_face, other = use_of(house, told[1])
    if face != other_face:
        raise OutOfPlace("these are of two faces")
    user = apart(face, one, other)
    return "yes" if user is None else in_a_line(user_rows(user))


def answer_least(house, told):
    """The answer to "least LABEL"."""
    face, making = use_of(house, told[0])
    return " ".join([str(count) for count in least_making(face, making)[0]])


def answer_needed(house, told):
    """The answer to "needed LABEL"."""
    face, making = use_of(house, told[0])
    return " ".join(needed(face, making))


def answer_looked(house, told):
    """The answer to "looked"."""
    return str(house.looked())


# What is asked of a house by each word.
ANSWERS = {
    "=": answer_hold,
    "drop": answer_drop,
    "change": answer_change,
    "ask": answer_ask,
    "names": answer_names,
    "face": answer_face,
    "making": answer_making,
    "alike": answer_alike,
    "same": answer_same,
    "least": answer_least,
    "needed": answer_needed,
    "looked": answer_looked,
}


def house_of(uses):
    """A house of uses whose faces and makings are texts."""
    read = []
    for label, face_told, making_told in uses:
        face = read_face(face_told)
        read.append((label, face, read_making_of(face, making_told)))
    return House(tuple(read))


class Desk:
    """A desk with a house, at first none."""

    def __init__(self):
        self.house = None

    def say(self, line):
        """The answer to a line."""
        told = told_in(line)
        if told is None:
            return "no line"
        word, things = told
        if self.house is None and word != "begin":
            return "no house"
        try:
            return self.answer(word, things)
        except BadRow as bad_row:
            return f"refused badrow {bad_row.row} {bad_row.word}"
        except BadUse as bad_use:
            number = "-" if bad_use.number is None else bad_use.number
            return f"refused baduse {number}"
        except ToldApart as told_apart:
            return f"refused toldapart {in_a_line(user_rows(told_apart.user))}"
        except OutOfPlace:
            return "refused outofplace"
        except Refused:
            return "refused refused"
        except TooGreat:
            return "refused toogreat"

    def answer(self, word, told):
        """The answer to what a line tells, where it isn't refused."""
        if word == "begin":
            self.house = house_of(told)
            return DONE
        action = ANSWERS[word]
        return action(self.house, told)

    # The interface tells of it behind the class's method: so it can be asked of a desk as well as by itself.
    def answers(self, lines):
        """The answers of a new desk to some lines; this one hears nothing of them."""
        return answers(lines)


def answers(lines):
    """The answers of a new desk to some lines."""
    desk = Desk()
    return [desk.say(line) for line in lines]
