"""Tables of equations joined as wirings are: left ends ahead of the right ones; nothing is looked at.

Strands that become inner ones are set ahead of all others, so that what follows without them is seen.
"""

from lagworks.forms import cleared
from lagworks.rows import nought_row
from lagworks.sums import added


def then_rows(rows, others, ends, prime):
    """The table of one part then another one; ends are how many left, inner and right ones there are."""
    left, inner, right = ends
    found = [row[left:] + row[:left] + nought_row(right) for row in rows]
    found.extend([row[:inner] + nought_row(left) + row[inner:] for row in others])
    return cleared(found, inner, prime)


def beside_rows(rows, others, ends, other_ends):
    """The table of one part above another one."""
    left, right = ends
    other_left, other_right = other_ends
    found = [row[:left] + nought_row(other_left) + row[left:] + nought_row(other_right) for row in rows]
    for row in others:
        found.append(nought_row(left) + row[:other_left] + nought_row(right) + row[other_left:])
    return found


def turned_rows(rows, left):
    """The table of a part with so many left ends that is turned."""
    return [row[left:] + row[:left] for row in rows]


def ring_rows(rows, left, prime):
    """The table of a part with so many left ends, the last of which is joined with the last right one."""
    found = [(added(row[left - 1], row[-1], prime),) + row[:left - 1] + row[left:-1] for row in rows]
    return cleared(found, 1, prime)
