"""Wirings as texts, there and back."""

from lagworks.errors import BadText, BadWiring
from lagworks.parts import MOST_DEEP, boxes_of, parts_of
from lagworks.sums import read_number

BETWEEN = {"then": " ; ", "beside": " | "}
# What holds less tightly than the sign between the parts, or just as tightly, stands in brackets there.
LOOSE = {"then": ("then",), "beside": ("then", "beside")}
STOPS = ("", "(", ")", ";", "|")


class Words:
    """The words, signs and brackets of a text, one after the other; behind the last one comes the empty word."""

    def __init__(self, text):
        self.waiting = text.replace("(", " ( ").replace(")", " ) ").split()
        self.waiting.reverse()

    def coming(self):
        """The word that comes next."""
        return self.waiting[-1] if self.waiting else ""

    def take(self, word):
        """Whether this word, not the empty one, comes next; then it is taken."""
        if self.coming() != word:
            return False
        self.waiting.pop()
        return True

    def take_box(self):
        """The words up to the next sign or bracket; they are taken."""
        found = []
        while self.coming() not in STOPS:
            found.append(self.waiting.pop())
        return found


def numbers_text(numbers):
    """Numbers with single blanks between."""
    return " ".join([str(number) for number in numbers])


def box_text(box):
    """The text of a box."""
    word = box[0]
    if word == "mix":
        return f"{word} " + " / ".join([numbers_text(row) for row in box[1]])
    if word == "shuffle":
        return f"{word} {numbers_text(box[1])}"
    return word if len(box) == 1 else f"{word} {box[1]}"


def inner_text(part, word):
    """The text of one of several parts of a then or a beside."""
    text = text_of(part)
    return f"({text})" if len(parts_of(part)) > 1 and part[0] in LOOSE[word] else text


def text_of(part):
    """The text of a wiring; nothing is looked at."""
    inner = parts_of(part)
    if not inner:
        return box_text(part)
    word = part[0]
    if len(inner) == 1:
        return f"{word}({text_of(inner[0])})"
    between = BETWEEN[word]
    return between.join([inner_text(one, word) for one in inner])


def write(wiring):
    """The text of a wiring, whether its ends fit or not."""
    boxes_of(wiring)
    return text_of(wiring)


def read_numbers(words):
    """The numbers that these words are."""
    return tuple([read_number(word) for word in words])


def read_rows(words):
    """The rows of a mix that these words are."""
    rows = [[]]
    for word in words:
        if word == "/":
            rows.append([])
        else:
            rows[-1].append(word)
    return tuple([read_numbers(row) for row in rows])


def read_box(words):
    """The box that these words are, or a tuple that is no box."""
    if not words:
        raise BadText("a box is missing")
    word, *more = words
    if word == "use":
        return tuple(words)
    if word == "mix":
        return word, read_rows(more)
    if word == "shuffle":
        return word, read_numbers(more)
    return (word,) + read_numbers(more)


def read_inner(words, deep):
    """What stands in brackets, the first of which is taken already."""
    if deep > MOST_DEEP:
        raise BadText("a wiring is at most 16 deep")
    found = read_then(words, deep)
    if not words.take(")"):
        raise BadText("a closing bracket is missing")
    return found


def read_part(words, deep):
    """A box, or what stands in brackets with the word ahead of them."""
    front = words.take_box()
    if not words.take("("):
        return read_box(front)
    inner = read_inner(words, deep + 1)
    if not front:
        return inner
    if front in (["turned"], ["ring"]):
        return front[0], inner
    if front in (["then"], ["beside"]):
        return front[0], (inner,)
    raise BadText("brackets stand where none may")


def read_beside(words, deep):
    """Parts with | between."""
    found = [read_part(words, deep)]
    while words.take("|"):
        found.append(read_part(words, deep))
    return found[0] if len(found) == 1 else ("beside", tuple(found))


def read_then(words, deep):
    """Parts with ; between."""
    found = [read_beside(words, deep)]
    while words.take(";"):
        found.append(read_beside(words, deep))
    return found[0] if len(found) == 1 else ("then", tuple(found))


def read(text):
    """The wiring that is written so, whether its ends fit or not."""
    found = read_then(Words(text), 0)
    try:
        again = write(found)
    except BadWiring:
        raise BadText("this is the text of no wiring") from None
    # Each wiring has one text alone, so whatever was read too loosely does not come back the same.
    if again != text:
        raise BadText("the wiring is not written so")
    return found
