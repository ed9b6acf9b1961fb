"""Pages: works as texts, there and back."""

from lagworks.deeds import done
from lagworks.errors import BadPage, BadText, LagError, WorksError
from lagworks.numbers import check_prime
from lagworks.stands import Stand, copy_of
from lagworks.sums import FIGURES
from lagworks.tongue import read, write
from lagworks.works import Works

MOST_FIGURES = 6


def sign_row(sign):
    """The row of one sign."""
    return " ".join(["sign"] + [str(number) for number in sign])


def page(works):
    """The text of works."""
    rows = [f"prime {works.prime()} next {works.coming()}"]
    for name in works.names():
        rows.append(f"lay {name} {write(works.wiring(name))}")
    for number, name in works.watches():
        rows.append(f"watch {number} {name}")
        rows.extend([sign_row(sign) for sign in works.sheet(number)])
    return "".join([row + "\n" for row in rows])


class Reader:
    """How all stands behind the rows that were read."""

    def __init__(self):
        self.stand = None
        self.limit = 0
        self.last = 0


def number_of(text):
    """The number that these figures are."""
    if not 1 <= len(text) <= MOST_FIGURES or not all([sign in FIGURES for sign in text]):
        raise BadText("a number of one to six figures is missing")
    if text[0] == "0" and text != "0":
        raise BadText("a number has a needless nought")
    return int(text)


def do_read(reader, deed):
    """Do a deed that a row tells."""
    reader.stand = done(reader.stand, deed)[0]


def read_head(reader, things):
    """The row with the prime and the number that comes next."""
    if len(things) != 3 or things[1] != "next":
        raise BadText("this is not how the first row is written")
    prime = number_of(things[0])
    check_prime(prime)
    reader.limit = number_of(things[2])
    if reader.limit == 0:
        raise BadText("numbers of watches are from 1 on")
    reader.stand = Stand(prime)


def read_lay(reader, things):
    """A row with a name and its wiring."""
    if reader.last > 0:
        raise BadText("a wiring stands behind a watch")
    do_read(reader, ("lay", things[0], read(" ".join(things[1:]))))


def read_watch(reader, things):
    """A row with the number of a watch and its name."""
    if len(things) != 2:
        raise BadText("this is not how a watch is written")
    number = number_of(things[0])
    if not reader.last < number < reader.limit:
        raise BadText("the number of a watch does not rise, or is not less than the one that comes next")
    # The numbers between belonged to watches that are closed.
    stand = copy_of(reader.stand)
    stand.following = number
    reader.stand = stand
    do_read(reader, ("watch", things[1]))
    reader.last = number


def read_sign(reader, things):
    """A row with the numbers of a sign of the last watch."""
    do_read(reader, ("feed", reader.last, tuple([number_of(thing) for thing in things])))


ROWS = {"lay": read_lay, "watch": read_watch, "sign": read_sign}


def read_row(reader, row):
    """Read one more row; what is not so written, or refused, is refused in one way or the other."""
    words = row.split(" ")
    word, *things = words
    if reader.stand is None and word == "prime":
        read_head(reader, things)
        return
    if reader.stand is None or word not in ROWS or (word != "sign" and not things):
        raise BadText("this row does not stand here")
    action = ROWS[word]
    action(reader, things)


def read_page(text):
    """The works that are written so, without anything to undo."""
    rows = text.split("\n")
    reader = Reader()
    for at, row in enumerate(rows[:-1]):
        try:
            read_row(reader, row)
        except (LagError, WorksError):
            raise BadPage("the row is not so written, or is refused there", at) from None
    if rows[-1] or reader.stand is None:
        raise BadPage("the row lacks its line feed", len(rows) - 1)
    stand = reader.stand
    stand.following = reader.limit
    found = Works(prime=stand.base)
    found.stand = stand
    return found
