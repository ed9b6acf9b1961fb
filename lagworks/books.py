"""Books: equations on left and right ends, in their told form, and how they are joined."""

from lagworks.boxrows import box_rows
from lagworks.errors import BadWidth, Unlike, Unshaped
from lagworks.forms import rest_of, told_rows
from lagworks.joins import beside_rows, ring_rows, then_rows, turned_rows
from lagworks.numbers import LEAST, check_prime
from lagworks.parts import parts_of
from lagworks.rows import head, height, is_nought
from lagworks.sheets import check_sheet, is_kept, run_out
from lagworks.sums import text_of
from lagworks.tables import check_rows
from lagworks.wirings import MOST_ENDS, box_ends, shape


class Book:
    """A book; it never changes."""

    def __init__(self, equations=(), *, left=0, right=1, prime=LEAST):
        check_prime(prime)
        if not 0 <= left <= MOST_ENDS or not 0 <= right <= MOST_ENDS:
            raise BadWidth("a book has from 0 to 12 ends on each side")
        check_rows(equations, left + right, prime)
        self.left = left
        self.right = right
        self.base = prime
        self.rows = told_rows(equations, prime)

    def equations(self):
        """The told form."""
        return list(self.rows)

    def ends(self):
        """(left, right): how many ends there are on each side."""
        return self.left, self.right

    def prime(self):
        """The prime by which all is reckoned."""
        return self.base

    def heights(self):
        """The heights of the told equations."""
        return [height(row) for row in self.rows]

    def lags(self):
        """The heights, added."""
        return sum(self.heights())

    def free(self):
        """How many ends there are less how many told equations."""
        return self.left + self.right - len(self.rows)

    def lets(self, sheet):
        """Whether strands that are let begin so."""
        check_sheet(sheet, self.left + self.right, self.base)
        return all([is_kept(row, sheet, self.base) for row in self.rows])

    def then(self, other):
        """This book, its right ends joined with the left ends of the other one."""
        check_primes(self, other)
        if self.right != other.left:
            raise Unshaped("the right ends of a book are not as many as the left ends of the next one")
        rows = then_rows(self.rows, other.rows, (self.left, self.right, other.right), self.base)
        return book_with(rows, self.left, other.right, self.base)

    def beside(self, other):
        """This book above the other one."""
        check_primes(self, other)
        left = self.left + other.left
        right = self.right + other.right
        if left > MOST_ENDS or right > MOST_ENDS:
            raise Unshaped("a book has at most 12 ends on a side")
        return book_with(beside_rows(self.rows, other.rows, self.ends(), other.ends()), left, right, self.base)

    def turned(self):
        """This book with left and right exchanged."""
        return book_with(turned_rows(self.rows, self.left), self.right, self.left, self.base)

    def ring(self):
        """This book, its last left end joined with its last right end."""
        if self.left == 0 or self.right == 0:
            raise Unshaped("a ring needs a left and a right end to join")
        rows = ring_rows(self.rows, self.left, self.base)
        return book_with(rows, self.left - 1, self.right - 1, self.base)

    def __len__(self):
        return len(self.rows)

    def __eq__(self, other):
        if not isinstance(other, Book):
            return False
        return self.ends() == other.ends() and self.base == other.base and self.rows == other.rows

    def __repr__(self):
        return f"Book({self.left} to {self.right}, {len(self.rows)} equations, by {self.base})"

    def __str__(self):
        return "\n".join([", ".join([text_of(one) for one in row]) for row in self.rows])


def book_with(rows, left, right, prime):
    """A book of any equations, of any number and degree: those of joined books are not handed in."""
    found = Book((), left=left, right=right, prime=prime)
    found.rows = told_rows(rows, prime)
    return found


def width_of(book):
    """How many ends a book has."""
    return book.left + book.right


def check_primes(one, other):
    """Refuse two books that are not of one prime."""
    if one.base != other.base:
        raise Unlike("the books have unlike primes")


def then_books(books):
    """Books one behind the other, as one."""
    found = books[0]
    for book in books[1:]:
        found = found.then(book)
    return found


def beside_books(books):
    """Books one below the other, as one."""
    found = books[0]
    for book in books[1:]:
        found = found.beside(book)
    return found


def turned_book(books):
    """The one book, turned."""
    return books[0].turned()


def ring_book(books):
    """The one book as a ring."""
    return books[0].ring()


JOINED_BOOKS = {"then": then_books, "beside": beside_books, "turned": turned_book, "ring": ring_book}


def part_book(part, prime):
    """The book of a wiring; nothing is looked at."""
    inner = parts_of(part)
    if not inner:
        left, right = box_ends(part)
        return book_with(box_rows(part, prime), left, right, prime)
    joined = JOINED_BOOKS[part[0]]
    return joined([part_book(one, prime) for one in inner])


def book_of(wiring, *, prime=LEAST):
    """The book that lets just what the wiring lets."""
    check_prime(prime)
    shape(wiring)
    return part_book(wiring, prime)


def rules_of(book):
    """The told equations by their heads."""
    return {head(row): row for row in book.rows}


def first_left(one, other):
    """(row, rest): the other book's first told equation that does not follow, and what is left of it; else None."""
    rules = rules_of(one)
    for row in other.rows:
        rest = rest_of(row, rules, 0, one.base)
        if not is_nought(rest):
            return row, rest
    return None


def check_alike(one, other):
    """Refuse two books that are not of like ends and one prime."""
    if one.ends() != other.ends():
        raise Unlike("the books have unlike ends")
    check_primes(one, other)


def within(one, other):
    """Whether each strands that one lets the other one lets, too."""
    check_alike(one, other)
    return first_left(one, other) is None


def parting(one, other):
    """A sheet that one lets and the other one does not; None where one is within the other."""
    check_alike(one, other)
    found = first_left(one, other)
    if found is None:
        return None
    row, rest = found
    # What is left of the equation has its places only where the numbers are free: one of them being 1 breaks it.
    end = head(rest)
    wished = [[0] * len(row) for place in range(height(row) + 1)]
    wished[height(rest)][end] = 1
    return run_out(rules_of(one), wished, one.base)
