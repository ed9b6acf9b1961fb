"""The free part of a book, the columns that draw its strands, and the swing that it lacks."""

from lagworks.books import book_with, width_of
from lagworks.forms import cleared, related
from lagworks.rows import level_row
from lagworks.sums import divided, product, shared


def sideways(rows, width):
    """For each end the sums that the rows have there."""
    return [tuple([row[end] for row in rows]) for end in range(width)]


def crossing(rows, width, prime):
    """The told form of all tuples of lag sums, one for each end, whose products with each row's, added, are nought."""
    return related(sideways(rows, width), len(rows), prime)


def drawn(book):
    """Columns that draw just the strands of the free part, as many as the book's free."""
    return crossing(book.equations(), width_of(book), book.prime())


def free_part(book):
    """The book of the equations some multiple of which follows."""
    left, right = book.ends()
    return book_with(crossing(drawn(book), width_of(book), book.prime()), left, right, book.prime())


def order_of(equation, rows, prime):
    """The level sum of the least degree by which an equation that has such a multiple follows from the rows."""
    marks = [equation + ((1,),)] + [row + ((),) for row in rows]
    # All that follows and is nought at all ends has one mark alone, and all such marks are multiples of one.
    return level_row(cleared(marks, len(equation), prime)[0], prime)[0]


def swing(book):
    """The level sum of the least degree whose product with each equation of the free part follows from the book."""
    prime = book.prime()
    found = (1,)
    for row in free_part(book).equations():
        one = order_of(row, book.equations(), prime)
        both = shared(found, one, prime)[0]
        found = product(found, divided(one, both, prime)[0], prime)
    return found
