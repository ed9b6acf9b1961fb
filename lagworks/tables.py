"""Tables: lists of equations of one width, and what follows from them."""

from lagworks.errors import BadEnds, BadTable, BadWidth
from lagworks.forms import cleared, marked, related, rest_of, settled, told_rows
from lagworks.numbers import LEAST, check_prime
from lagworks.rows import is_nought, is_row, nought_row, row_less

MOST_WIDE = 12
MOST_ROWS = 12


def check_rows(rows, width, prime):
    """Refuse a table that is none of this width; at is the place of its first bad equation."""
    for at, row in enumerate(rows[:MOST_ROWS]):
        if not is_row(row, width, prime):
            raise BadTable("an equation is a tuple of lag sums of at most 12 residues, one for each end", at)
    if len(rows) > MOST_ROWS:
        raise BadTable("a table has at most 12 equations", MOST_ROWS)


def check_table(rows, width, prime):
    """Refuse a wrong prime, then a wrong width, then a wrong table."""
    check_prime(prime)
    if not 1 <= width <= MOST_WIDE:
        raise BadWidth("a width is from 1 to 12")
    check_rows(rows, width, prime)


def check_asked(rows, equation, width, prime):
    """Refuse as check_table, then an equation that is none."""
    check_table(rows, width, prime)
    check_rows([equation], width, prime)


def check_ends(ends, many):
    """Refuse what is no list of ends below many, rising."""
    if not all([0 <= end < many for end in ends]):
        raise BadEnds("there is no such end")
    if not all([end < later for end, later in zip(ends, ends[1:])]):
        raise BadEnds("ends must be rising")


def told(rows, width, *, prime=LEAST):
    """The told form of a table."""
    check_table(rows, width, prime)
    return told_rows(rows, prime)


def follows(rows, equation, width, *, prime=LEAST):
    """Whether an equation follows from a table."""
    check_asked(rows, equation, width, prime)
    return is_nought(rest_of(equation, settled(rows, 0, prime), 0, prime))


def paper(rows, equation, width, *, prime=LEAST):
    """Lag sums, one for each row, that times these and added are the equation; None where it does not follow."""
    check_asked(rows, equation, width, prime)
    basis = settled(marked(rows), width, prime)
    rest = rest_of(equation + nought_row(len(rows)), basis, width, prime)
    if not is_nought(rest[:width]):
        return None
    # What was taken off the equation to leave nought has left its multiples, below nought, behind it.
    return list(row_less(nought_row(len(rows)), rest[width:], (1,), prime))


def without(rows, width, gone, *, prime=LEAST):
    """The told form of all equations that follow and are nought at the gone ends, these sums left out."""
    check_table(rows, width, prime)
    check_ends(gone, width)
    if len(gone) == width:
        raise BadEnds("some end must be left")
    order = list(gone) + [end for end in range(width) if end not in gone]
    ordered = [tuple([row[end] for end in order]) for row in rows]
    return told_rows(cleared(ordered, len(gone), prime), prime)


def relations(rows, width, *, prime=LEAST):
    """The told form of all tuples of lag sums, one for each row, that times these and added are nought everywhere."""
    check_table(rows, width, prime)
    return related(rows, width, prime)
