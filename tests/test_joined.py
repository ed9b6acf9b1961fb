"""Books joined: then, beside, turned, ring."""

import itertools
import random
import unittest

from lagworks.books import Book, book_of
from lagworks.errors import Unlike, Unshaped
from lagworks.tables import told, without
from tests.helper import (beside, check_told_form, drawn_book, drawn_books, drawn_fits, drawn_row, no_row, refused,
                          right_ends, ring, then, turned, width_of)


def drawn_between(draw, left, right, prime, most=2):
    """A book of these ends and few equations."""
    rows = [drawn_row(draw, prime, left + right, most) for k in range(draw.randint(0, min(left + right, 3)))]
    return Book(rows, left=left, right=right, prime=prime)


def plain_then(one, other):
    """The joined equations, the inner ends taken out by a table."""
    (left, inner), (inner, right), prime = one.ends(), other.ends(), one.prime()
    rows = [row + no_row(right) for row in one.equations()] + [no_row(left) + row for row in other.equations()]
    if left + right == 0:
        return []
    return without(rows, left + inner + right, list(range(left, left + inner)), prime=prime)


class Then(unittest.TestCase):
    def test_joined_equations(self):
        draw = random.Random("then")
        for k in range(300):
            prime = draw.choice([2, 3, 5, 97])
            left, inner, right = (draw.randint(0, 3) for side in range(3))
            one, other = drawn_between(draw, left, inner, prime), drawn_between(draw, inner, right, prime)
            kept = one.equations(), other.equations()
            if left + inner + right:
                found = one.then(other)
                self.assertIsInstance(found, Book)
                self.assertEqual((found.ends(), found.prime()), ((left, right), prime))
                self.assertEqual(found.equations(), plain_then(one, other))
                self.assertEqual((one.equations(), other.equations()), kept)

    def test_lots(self):
        draw = random.Random("lots of thens")
        for k in range(100):
            prime, ends = draw.choice([2, 3, 5]), [draw.randint(0, 3) for side in range(4)]
            one, two, three = (drawn_between(draw, a, b, prime) for a, b in zip(ends, ends[1:]))
            self.assertEqual(one.then(two).then(three), one.then(two.then(three)))
            self.assertEqual(one.then(two).turned(), two.turned().then(one.turned()))

    def test_wires_change_nothing(self):
        for draw, book in drawn_books("wires", 100):
            left, right = book.ends()
            if left and right:
                before = book_of(beside(*[("wire",)] * left), prime=book.prime())
                behind = book_of(beside(*[("wire",)] * right), prime=book.prime())
                self.assertEqual(before.then(book).then(behind), book)

    def test_itself(self):
        draw = random.Random("itself")
        for k in range(60):
            book = drawn_between(draw, 2, 2, draw.choice([2, 3, 5]))
            self.assertEqual(book.then(book).equations(), plain_then(book, book))
            self.assertEqual(book.beside(book).turned(), book.turned().beside(book.turned()))

    def test_refusals(self):
        two = {p: Book(left=1, right=2, prime=p) for p in (2, 3)}
        refused(self, Unshaped, two[2].then, two[2])
        refused(self, Unlike, two[2].then, two[3])
        refused(self, Unlike, two[3].then, Book(left=2, right=1, prime=5))
        refused(self, Unshaped, Book().then, Book())
        refused(self, Unshaped, Book(left=0, right=0).then, other=Book(left=12, right=0))


class Beside(unittest.TestCase):
    def plain(self, one, other):
        (left, right), (more, last) = one.ends(), other.ends()
        rows = [row[:left] + no_row(more) + row[left:] + no_row(last) for row in one.equations()]
        return rows + [no_row(left) + row[:more] + no_row(right) + row[more:] for row in other.equations()]

    def test_joined_equations(self):
        draw = random.Random("beside")
        for k in range(300):
            prime = draw.choice([2, 3, 97])
            one, other = (drawn_book(draw, primes=(prime,)) for side in range(2))
            found, kept = one.beside(other), (one.equations(), other.equations())
            (left, right), (more, last) = one.ends(), other.ends()
            self.assertEqual(found.ends(), (left + more, right + last))
            if width_of(found):
                self.assertEqual(found.equations(), told(self.plain(one, other), width_of(found), prime=prime))
            self.assertEqual((found.lags(), found.free()), (one.lags() + other.lags(), one.free() + other.free()))
            self.assertEqual((one.equations(), other.equations()), kept)

    def test_lots(self):
        draw = random.Random("lots of besides")
        for k in range(60):
            one, two, three = (drawn_book(draw, ends=3, primes=(3,)) for side in range(3))
            self.assertEqual(one.beside(two).beside(three), one.beside(two.beside(three)))
            self.assertEqual(one.beside(two).turned(), one.turned().beside(two.turned()))

    def test_both_ways(self):
        """Rows beside one another, then others: the same either way."""
        draw = random.Random("both ways")
        for k in range(60):
            a, b, c, d = (draw.randint(0, 2) for side in range(4))
            one, two = drawn_between(draw, a, b, 5), drawn_between(draw, b, c, 5)
            more, last = drawn_between(draw, c, d, 5), drawn_between(draw, d, a, 5)
            self.assertEqual(one.beside(more).then(two.beside(last)), one.then(two).beside(more.then(last)))

    def test_up_to_24_told_ones(self):
        draw = random.Random("24 told ones")
        rows = [drawn_row(draw, 97, 12, 4) for k in range(12)]
        book = Book(rows, left=6, right=6, prime=97)
        self.assertEqual(len(book), 12)
        found = book.beside(book)
        self.assertEqual((len(found), found.ends(), found.free()), (24, (12, 12), 0))
        check_told_form(self, found.equations(), 24, 97)
        self.assertEqual(found.turned().turned(), found)
        self.assertEqual(len(found.ring()), 22)
        self.assertEqual(len(found.then(found)), 24)
        # Degrees of more than twelve places are told as well.
        tall = book_of(then(*[("lag",)] * 8), prime=5)
        self.assertEqual(tall.then(tall).equations(), [((4,), (0,) * 16 + (1,))])

    def test_refusals(self):
        for sides in itertools.product((0, 5, 6, 7, 12), repeat=4):
            one, other = Book(left=sides[0], right=sides[1]), Book(left=sides[2], right=sides[3])
            if sides[0] + sides[2] > 12 or sides[1] + sides[3] > 12:
                refused(self, Unshaped, one.beside, other)
                refused(self, Unlike, one.beside, Book(left=sides[2], right=sides[3], prime=3))
            else:
                self.assertEqual(one.beside(other=other).ends(), (sides[0] + sides[2], sides[1] + sides[3]))
        refused(self, Unlike, Book().beside, Book(prime=97))


class Turned(unittest.TestCase):
    def test_joined_equations(self):
        for draw, book in drawn_books("turned", 300):
            (left, right), rows = book.ends(), book.equations()
            found = book.turned()
            self.assertEqual((found.ends(), found.prime()), ((right, left), book.prime()))
            if width_of(book):
                self.assertEqual(found.equations(), told([row[left:] + row[:left] for row in rows], left + right,
                                                         prime=book.prime()))
            self.assertEqual(found.turned(), book)
            self.assertEqual(book.equations(), rows)


class Ring(unittest.TestCase):
    def test_joined_equations(self):
        checked = 0
        for draw, book in drawn_books("ring", 600):
            (left, right), rows, prime = book.ends(), book.equations(), book.prime()
            if left and right:
                found = book.ring()
                self.assertEqual((found.ends(), found.prime()), ((left - 1, right - 1), prime))
                width = left + right
                if width > 2:
                    # The two ends have one strand: an equation more says so, then both are taken out.
                    same = tuple((1,) if end == left - 1 else (prime - 1,) if end == width - 1 else ()
                                 for end in range(width))
                    self.assertEqual(found.equations(), without(rows + [same], width, [left - 1, width - 1], prime=prime))
                    checked += 1
                else:
                    self.assertEqual(found.equations(), [])
                self.assertEqual(book.equations(), rows)
        self.assertGreater(checked, 100)

    def test_refusals(self):
        for left, right in [(0, 0), (0, 1), (1, 0), (12, 0), (0, 12)]:
            refused(self, Unshaped, Book(left=left, right=right).ring)
        refused(self, Unshaped, Book(left=1, right=1).ring().ring)


class LikeWirings(unittest.TestCase):
    def test_books_of_joined_wirings(self):
        for draw, prime, wiring in drawn_fits("joined wirings", 150, deep=3):
            book = book_of(wiring, prime=prime)
            self.assertEqual(book_of(turned(wiring), prime=prime), book.turned())
            if min(book.ends()):
                self.assertEqual(book_of(ring(wiring), prime=prime), book.ring())
            if sum(book.ends()) <= 6:
                self.assertEqual(book_of(beside(wiring, wiring), prime=prime), book.beside(book))
                self.assertEqual(book_of(then(wiring, turned(wiring)), prime=prime), book.then(book.turned()))
                self.assertEqual(book_of(then(turned(wiring), wiring), prime=prime), book.turned().then(book))
            if 1 <= right_ends(wiring) <= 4:
                more = ("sum", right_ends(wiring))
                self.assertEqual(book_of(then(wiring, more), prime=prime), book.then(book_of(more, prime=prime)))


if __name__ == "__main__":
    unittest.main()
