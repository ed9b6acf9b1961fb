"""Equations as rows: tuples of lag sums, one for each end, of any degree; nothing is looked at but by is_row."""

from lagworks.numbers import inverse_of
from lagworks.sums import is_sum, less_times, weighed


def is_row(row, width, prime):
    """Whether a tuple of tuples of numbers is an equation of this width that may be handed in."""
    return len(row) == width and all([is_sum(one, prime) for one in row])


def nought_row(width):
    """The equation that is nought everywhere."""
    return ((),) * width


def is_nought(row):
    """Whether an equation is nought everywhere."""
    return all([one == () for one in row])


def row_less(row, other, by, prime):
    """An equation less another one multiplied by a lag sum."""
    return tuple([less_times(one, more, by, prime) for one, more in zip(row, other)])


def height(row):
    """The greatest degree of the sums of an equation that is not nought everywhere."""
    return max([len(one) for one in row]) - 1


def head(row):
    """The last end whose sum has the equation's height as its degree."""
    longest = height(row) + 1
    return max([end for end, one in enumerate(row) if len(one) == longest])


def level_row(row, prime):
    """The equation weighed so that the sum at its head is level."""
    unit = inverse_of(row[head(row)][-1], prime)
    return tuple([weighed(one, unit, prime) for one in row])


def reading(row, sheet, place, prime):
    """What the equation comes to at a place of a list of signs; it is kept there where this is 0."""
    total = 0
    for end, one in enumerate(row):
        for later, residue in enumerate(one):
            total += residue * sheet[place + later][end]
    return total % prime
