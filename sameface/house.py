"""A house: uses of faces by makings, and the worths that it holds by names."""

from sameface.alike import Classes
from sameface.coming import ComeTo
from sameface.doing import done_rightly
from sameface.errors import BadUse, OutOfPlace, Refused, ToldApart
from sameface.faces import find_deed, is_face
from sameface.facetext import face_rows
from sameface.leading import good_leads
from sameface.makings import making_fault, refuse_no_making
from sameface.makingtext import making_rows
from sameface.related import Together
from sameface.words import is_below, is_name, is_tuple_of

MOST_USES = 4


def is_use(thing):
    """Whether anything is a use, (LABEL, FACE, MAKING)."""
    if not is_tuple_of(thing, 3, 3):
        return False
    label, face, making = thing
    return is_name(label) and is_face(face) and making_fault(face, making) is None


def need_uses(uses):
    """Refuse what are no one to four uses of unlike labels."""
    if not is_tuple_of(uses, 1, MOST_USES):
        raise BadUse(None)
    labels = []
    for number, use in enumerate(uses):
        if not is_use(use) or use[0] in labels:
            raise BadUse(number)
        labels.append(use[0])


def led_worths(together):
    """For each hidden kind what each come-to worth of the one making is led to by the least leading."""
    good = good_leads(together)
    led = {}
    for kind in together.face[0]:
        others = together.other.found.things[kind]
        worths = together.one.found.things[kind]
        led[kind] = {worth: others[numbers[0]] for worth, numbers in zip(worths, good[kind])}
    return led


class House:
    """One to four uses, and the worths that are held by names, each with its label and kind."""

    def __init__(self, uses):
        need_uses(uses)
        self.faces = {label: face for label, face, making in uses}
        self.makings = {label: making for label, face, making in uses}
        self.held = {}
        # What was asked of by changing, by the texts of the face and of both makings: the user that tells these apart,
        # or None, and what worths are led to.
        self.asked = {}
        # The classes of alike worths of a label, as long as it has its making.
        self.classes = {}

    def uses_now(self):
        """The uses as they are by now."""
        return tuple([(label, self.faces[label], self.makings[label]) for label in self.faces])

    def names_held(self):
        """The names that hold a worth, rising."""
        return sorted(self.held)

    def worth_held(self, name):
        """(LABEL, KIND, WORTH) of what a name holds; anything else is refused."""
        if not isinstance(name, str) or name not in self.held:
            raise OutOfPlace("this holds nothing")
        return self.held[name]

    def kind_of(self, name):
        """(LABEL, KIND) of what a name holds."""
        label, kind, worth = self.worth_held(name)
        return (label, kind)

    def face_of(self, label):
        """The face of a label; anything else is refused."""
        if not isinstance(label, str) or label not in self.faces:
            raise OutOfPlace("no use is called so")
        return self.faces[label]

    def alike_held(self, one, other):
        """Whether what two names hold is alike."""
        label, kind, worth = self.worth_held(one)
        other_label, other_kind, beside = self.worth_held(other)
        if (label, kind) != (other_label, other_kind):
            raise OutOfPlace("these are held of two labels or kinds")
        if label not in self.classes:
            self.classes[label] = Classes(ComeTo(self.faces[label], self.makings[label]))
        numbers = self.classes[label].come.found.numbers[kind]
        return self.classes[label].are_in_one(kind, numbers[worth], numbers[beside])

    def thing_handed(self, label, kind, thing):
        """What is handed for a kind: the worth that a name holds, or a number; anything else is refused."""
        if isinstance(kind, int):
            if not is_below(thing, kind):
                raise OutOfPlace("this is no number of the kind")
            return thing
        held_label, held_kind, worth = self.worth_held(thing)
        if (held_label, held_kind) != (label, kind):
            raise OutOfPlace("this is held of another label or kind")
        return worth

    def given_by_deed(self, label, deed, handed, is_plain):
        """The kind that a deed gives, a plain or a hidden one as is wanted, and what it gives."""
        face = self.face_of(label)
        number = find_deed(face, deed)
        if number is None or isinstance(face[1][number][2], int) != is_plain:
            raise OutOfPlace("no deed that gives such a kind is called so")
        takes, gives = face[1][number][1:]
        if not is_tuple_of(handed, len(takes), len(takes)):
            raise OutOfPlace("the deed doesn't take so many things")
        things = tuple([self.thing_handed(label, kind, thing) for kind, thing in zip(takes, handed)])
        given = done_rightly(face, self.makings[label], number, things)
        if given is None:
            raise Refused("the deed refuses")
        return gives, given

    def give_name(self, name, label, deed, handed):
        """Hold what a deed gives by a name."""
        if not is_name(name):
            raise OutOfPlace("this is no name")
        kind, worth = self.given_by_deed(label, deed, handed, False)
        self.held[name] = (label, kind, worth)

    def ask_deed(self, label, deed, handed):
        """The number that a deed gives."""
        kind, number = self.given_by_deed(label, deed, handed, True)
        return number

    def drop_name(self, name):
        """Hold nothing by a name any more."""
        self.worth_held(name)
        del self.held[name]

    def change(self, label, making):
        """Go on with another making of a label that is the same, and lead what is held of it over."""
        face = self.face_of(label)
        refuse_no_making(face, making)
        user, led = self.change_told(face, self.makings[label], making)
        if user is not None:
            raise ToldApart(user)
        for name in list(self.held):
            held_label, kind, worth = self.held[name]
            if held_label == label:
                self.held[name] = (label, kind, led[kind][worth])
        self.makings[label] = making
        if label in self.classes:
            del self.classes[label]

    def change_told(self, face, one, other):
        """The user that tells two right makings apart, and None; or None, and what worths are led to."""
        # Texts: makings themselves are nested too deep to be keys.
        texts = [face_rows(face), making_rows(face, one), making_rows(face, other)]
        key = tuple(["\n".join(rows) for rows in texts])
        if key not in self.asked:
            together = Together(face, one, other)
            user = together.first_apart()
            self.asked[key] = (user, led_worths(together) if user is None else None)
        return self.asked[key]

    def looked(self):
        """How many unlike three things, a face and two makings, were asked of by changing."""
        return len(self.asked)
