"""Rows of one width brought into form: by their leads, and as the one told form; nothing is looked at.

The ends ahead of cut go ahead of all others: the lead of a row is its head among them, and only where the row is
nought at them its head among the others. So the settled rows that are nought ahead of cut are those from which
all follows that is nought there.
"""

from lagworks.rows import is_nought, level_row, row_less
from lagworks.sums import divided


def lead(row, cut, weight):
    """The end at which a row that is not nought everywhere leads where the ends ahead of cut count weight more."""
    high = [(len(one) + weight if one and end < cut else len(one), end) for end, one in enumerate(row)]
    return max(high)[1]


def lessened(row, other, end, prime):
    """The row less the multiple of the other one that leaves it a lesser degree than the other's at an end."""
    quotient, rest = divided(row[end], other[end], prime)
    return row_less(row, other, quotient, prime)


def settle(basis, row, cut, weight, prime):
    """Put one more row into a dict of rows by their leads, so that from it follows what followed, and the row."""
    while not is_nought(row):
        end = lead(row, cut, weight)
        if end not in basis:
            basis[end] = row
            return
        # The one of the lesser degree stays: the other's lead falls, and leads can't fall for ever.
        if len(row[end]) < len(basis[end][end]):
            basis[end], row = row, basis[end]
        row = lessened(row, basis[end], end, prime)


def is_settled(basis, cut):
    """Whether each row leads ahead of cut or is nought there."""
    return all([end < cut or is_nought(basis[end][:cut]) for end in basis])


def settled(rows, cut, prime):
    """Rows with unlike leads, by their leads, from which the same follows as from the rows."""
    weight = 0
    while True:
        basis = {}
        for row in rows:
            settle(basis, row, cut, weight, prime)
        if is_settled(basis, cut):
            return basis
        # Weighing the ends ahead of cut by ever more, not boundlessly at once, keeps the other degrees low.
        rows = list(basis.values())
        weight = 2 * weight + 1


def rest_of(row, basis, cut, prime):
    """What is left of a row by settled ones: at the lead of each its degree is lesser; nought where it follows."""
    while True:
        high = [(at < cut, len(row[at]), at) for at in basis if len(row[at]) >= len(basis[at][at])]
        if not high:
            return row
        # The greatest one first: what is then put in stands below it.
        end = max(high)[2]
        row = lessened(row, basis[end], end, prime)


def told_rows(rows, prime):
    """The told form of rows."""
    basis = settled(rows, 0, prime)
    found = []
    for end in sorted(basis):
        others = {other: basis[other] for other in basis if other != end}
        found.append(level_row(rest_of(basis[end], others, 0, prime), prime))
    return found


def unit_row(place, width):
    """The row that is 1 at a place and nought at all others."""
    return tuple([(1,) if end == place else () for end in range(width)])


def marked(rows):
    """Each row, and behind it the unit row of its place: so it is seen of which rows something was made."""
    return [row + unit_row(place, len(rows)) for place, row in enumerate(rows)]


def cleared(rows, cut, prime):
    """Rows from which all follows that follows from these and is nought ahead of cut; what stands there is left out."""
    basis = settled(rows, cut, prime)
    return [basis[end][cut:] for end in sorted(basis) if end >= cut]


def related(rows, width, prime):
    """The told form of all tuples of lag sums, one for each row, that times these and added are nought everywhere."""
    return told_rows(cleared(marked(rows), width, prime), prime)
