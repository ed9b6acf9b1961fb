"""The tuples that wirings are made of: whether one is a box or a joined part, and the boxes of a whole wiring."""

from lagworks.errors import BadWiring

MOST_DEEP = 16
MOST_BOXES = 60
MOST_LAGS = 8
MOST_THINGS = 12
MOST_WEIGHT = 96
MOST_COPIES = 4
MOST_LETTERS = 8
LETTERS = "abcdefghijklmnopqrstuvwxyz"
LAG = ("lag",)


def is_number(thing, most):
    """Whether a thing is a number from 0 to most; True and False are none."""
    return isinstance(thing, int) and not isinstance(thing, bool) and 0 <= thing <= most


def is_weight(thing):
    """Whether a thing is a number to weigh by."""
    return is_number(thing, MOST_WEIGHT)


def is_copies(thing):
    """Whether a thing is how many ends a copy or a sum may have."""
    return is_number(thing, MOST_COPIES)


def is_name(thing):
    """Whether a thing is a name: 1 to 8 small letters."""
    if not isinstance(thing, str) or not 1 <= len(thing) <= MOST_LETTERS:
        return False
    return all([sign in LETTERS for sign in thing])


def is_filled(thing):
    """Whether a thing is a tuple of 1 to 12 things."""
    return isinstance(thing, tuple) and 1 <= len(thing) <= MOST_THINGS


def is_weights(thing):
    """Whether a thing is a row of a mix."""
    return is_filled(thing) and all([is_weight(number) for number in thing])


def is_rows(thing):
    """Whether a thing is the rows of a mix, all of one length."""
    if not is_filled(thing) or not all([is_weights(row) for row in thing]):
        return False
    return all([len(row) == len(thing[0]) for row in thing])


def is_order(thing):
    """Whether a thing is the order of a shuffle: each number from 0 on once."""
    if not is_filled(thing) or not all([is_number(number, len(thing) - 1) for number in thing]):
        return False
    return sorted(thing) == list(range(len(thing)))


BARE_BOXES = ("wire", "lag")
FILLED_BOXES = {"weigh": is_weight, "copy": is_copies, "sum": is_copies, "mix": is_rows, "shuffle": is_order,
                "use": is_name}


def word_of(part):
    """The word that a tuple begins with; empty where there is none."""
    if not isinstance(part, tuple) or not part or not isinstance(part[0], str):
        return ""
    return part[0]


def is_box(part):
    """Whether a thing is a box, a use too."""
    word = word_of(part)
    if word in BARE_BOXES:
        return len(part) == 1
    if word not in FILLED_BOXES or len(part) != 2:
        return False
    fits = FILLED_BOXES[word]
    return fits(part[1])


def parts_of(part):
    """The parts that a joined part is made of, whatever they are; none where it is no joined part."""
    word = word_of(part)
    if word in ("turned", "ring") and len(part) == 2:
        return part[1:]
    if word in ("then", "beside") and len(part) == 2 and is_filled(part[1]):
        return part[1]
    return ()


def boxes_of(wiring):
    """The boxes of a wiring, uses too, from left to right; what is no wiring, but for its ends, is refused."""
    found = []
    waiting = [(wiring, 1)]
    while waiting:
        part, deep = waiting.pop()
        inner = parts_of(part)
        if not inner and not is_box(part):
            raise BadWiring("there is neither a box nor a joined part where one must stand")
        if deep > MOST_DEEP:
            raise BadWiring("a wiring is at most 16 deep")
        if inner:
            waiting.extend([(one, deep + 1) for one in reversed(inner)])
        else:
            found.append(part)
        # Looked at here, not behind the loop: a small tuple that holds itself over and over has no end of boxes.
        if len(found) > MOST_BOXES:
            raise BadWiring("a wiring has at most 60 boxes")
    if found.count(LAG) > MOST_LAGS:
        raise BadWiring("a wiring has at most 8 lags")
    return found
