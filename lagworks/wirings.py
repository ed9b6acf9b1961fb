"""Wirings: boxes and joined parts, and how many ends they have."""

from lagworks.errors import BadWiring, Unshaped
from lagworks.parts import LAG, boxes_of, parts_of

MOST_ENDS = 12


def box_ends(box):
    """(left, right) of a box."""
    word = box[0]
    if word == "copy":
        return 1, box[1]
    if word == "sum":
        return box[1], 1
    if word == "mix":
        return len(box[1][0]), len(box[1])
    if word == "shuffle":
        return len(box[1]), len(box[1])
    return 1, 1


def then_ends(ends):
    """(left, right) of parts one behind the other."""
    for before, behind in zip(ends, ends[1:]):
        if before[1] != behind[0]:
            raise Unshaped("the right ends of a part are not as many as the left ends of the next one")
    return ends[0][0], ends[-1][1]


def beside_ends(ends):
    """(left, right) of parts one below the other."""
    return sum([left for left, right in ends]), sum([right for left, right in ends])


def turned_ends(ends):
    """(left, right) of a part that is turned."""
    left, right = ends[0]
    return right, left


def ring_ends(ends):
    """(left, right) of a part whose last ends are joined."""
    left, right = ends[0]
    if left == 0 or right == 0:
        raise Unshaped("a ring needs a left and a right end to join")
    return left - 1, right - 1


JOINED_ENDS = {"then": then_ends, "beside": beside_ends, "turned": turned_ends, "ring": ring_ends}


def ends_of(part):
    """(left, right) of a wiring without uses that is one but for its ends."""
    inner = parts_of(part)
    if not inner:
        return box_ends(part)
    joined = JOINED_ENDS[part[0]]
    left, right = joined([ends_of(one) for one in inner])
    if left > MOST_ENDS or right > MOST_ENDS:
        raise Unshaped("a part has at most 12 ends on a side")
    return left, right


def plain_boxes(wiring):
    """The boxes of a wiring, from left to right; a use is refused, too."""
    found = boxes_of(wiring)
    if any([box[0] == "use" for box in found]):
        raise BadWiring("names are used in works alone")
    return found


def shape(wiring):
    """(left, right): how many ends a wiring has on each side."""
    plain_boxes(wiring)
    return ends_of(wiring)


def boxes(wiring):
    """How many boxes a wiring has."""
    shape(wiring)
    return len(boxes_of(wiring))


def lags(wiring):
    """How many lags a wiring has."""
    shape(wiring)
    return boxes_of(wiring).count(LAG)
