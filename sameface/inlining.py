"""Modules and makings put into a module: bodies in the places of its calls."""

from sameface.calls import exchanged
from sameface.errors import TooGreat
from sameface.exprs import MOST_PARTS
from sameface.faces import find_deed, need_face
from sameface.makings import bounds_for
from sameface.modules import module_fault, need_over, refuse_no_module


def shape_put(upper, shapes, shape):
    """A shape with the fields of these shapes of the upper face in the places of its worths."""
    fields = []
    for field in shape:
        if isinstance(field, int):
            fields.append(field)
        else:
            fields.extend(bounds_for(upper, shapes, field[1]))
    return tuple(fields)


def leaves_moved(upper, shapes, number, shape):
    """For each field of the thing of this number its leaves: where it stands by now, or each of its own fields."""
    leaves = {}
    place = 0
    for at, field in enumerate(shape):
        many = len(shape_put(upper, shapes, (field,)))
        leaves[("in", number, at)] = tuple([("in", number, place + more) for more in range(many)])
        place += many
    return leaves


def with_leaves(leaves, leaf, fields):
    """Leaves, and those of one more."""
    more = {old: leaves[old] for old in leaves}
    more[leaf] = fields
    return more


class Putting:
    """Bodies of a module of the upper face put into one body.

    Leaves tell for what each ("in", K, F) and ("got", J) of a body is exchanged: a tuple with an E, or with an E or a W
    for each field of a worth. Around is how many calls are around in what comes of it.
    """

    def __init__(self, upper, module):
        self.upper = upper
        self.shapes = module[0]
        self.bodies = module[1]
        self.made = 0

    def count_body(self):
        """Note that one more body stands in what comes; too many are refused at once, there could be millions."""
        self.made += 1
        if self.made > MOST_PARTS:
            raise TooGreat("the body would have too many parts")

    def put(self, body, leaves, calls, around):
        """A body with what is called in the places of its calls, of which so many are around."""
        word = body[0]
        if word == "call":
            return self.put_call(body, leaves, calls, around)
        self.count_body()
        if word == "refuse":
            return body
        if word == "when":
            condition = exchanged(body[1], leaves)
            first = self.put(body[2], leaves, calls, around)
            return (word, condition, first, self.put(body[3], leaves, calls, around))
        given = []
        for told in body[1]:
            # Of a W all its fields stand there.
            is_leaf = told[0] in ("in", "got")
            given.extend(leaves[told] if is_leaf else (exchanged(told, leaves),))
        return (word, tuple(given))

    def put_call(self, body, leaves, calls, around):
        """What stands in the place of a call."""
        number = find_deed(self.upper, body[1])
        takes, gives = self.upper[1][number][1:]
        inner = {}
        for place, (kind, arg) in enumerate(zip(takes, body[2])):
            if isinstance(kind, int):
                inner[("in", place, 0)] = (("rest", exchanged(arg, leaves), kind),)
            else:
                for at, field in enumerate(leaves[arg]):
                    inner[("in", place, at)] = (field,)
        behind = (body[3], leaves, calls, bounds_for(self.upper, self.shapes, gives))
        return self.put_called(self.bodies[number], inner, 0, around, behind)

    def put_called(self, body, leaves, calls, around, behind):
        """A body that is put in the place of a call, with what stands behind the call in the places of its gives."""
        word = body[0]
        if word == "give":
            return self.put_behind(body, leaves, around, behind)
        self.count_body()
        if word == "refuse":
            return body
        if word == "when":
            condition = exchanged(body[1], leaves)
            first = self.put_called(body[2], leaves, calls, around, behind)
            return (word, condition, first, self.put_called(body[3], leaves, calls, around, behind))
        args = tuple([exchanged(arg, leaves) for arg in body[2]])
        more = with_leaves(leaves, ("got", calls), (("got", around),))
        return (word, body[1], args, self.put_called(body[3], more, calls + 1, around + 1, behind))

    def put_behind(self, body, leaves, around, behind):
        """What stands behind a call, by what a give of the called body gives."""
        goes_on, outer, calls, bounds = behind
        fields = []
        for told, bound in zip(body[1], bounds):
            field = exchanged(told, leaves)
            fields.append(("rest", field, bound) if isinstance(bound, int) else field)
        return self.put(goes_on, with_leaves(outer, ("got", calls), tuple(fields)), calls + 1, around)


def body_put(top, upper, first, module, number):
    """The body of a top deed, with the upper module's in the places of its calls."""
    leaves = {}
    for place, kind in enumerate(top[1][number][1]):
        moved = leaves_moved(upper, module[0], place, bounds_for(top, first[0], kind))
        for leaf in moved:
            leaves[leaf] = moved[leaf]
    return Putting(upper, module).put(first[1][number], leaves, 0, 0)


def put_rightly(top, upper, lower, first, module):
    """A right module of the top face over the upper one, with one of the upper face over the lower one put into it."""
    shapes = tuple([shape_put(upper, module[0], shape) for shape in first[0]])
    bodies = tuple([body_put(top, upper, first, module, number) for number in range(len(top[1]))])
    # All in it is right but for how much it is: so what is no module is too great.
    if module_fault(top, lower, (shapes, bodies)) is not None:
        raise TooGreat("no module can be so great")
    return (shapes, bodies)


def inlined(upper, lower, module, making):
    """The making of the upper face that comes of putting a making of the lower one into a module."""
    need_over(upper, lower, module, making)
    # A making is a module over whatever face.
    return put_rightly(upper, lower, lower, module, making)


def put_into(top, upper, lower, first, module):
    """The module of the top face over the lower one that comes of putting a module into the first one."""
    need_face(top)
    need_face(upper)
    need_face(lower)
    refuse_no_module(top, upper, first)
    refuse_no_module(upper, lower, module)
    return put_rightly(top, upper, lower, first, module)
