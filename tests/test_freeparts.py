"""Free parts, the columns that draw them, and the swing."""

import itertools
import random
import unittest

from lagworks.books import Book, book_of, within
from lagworks.freeparts import drawn, free_part, swing
from lagworks.tables import follows
from tests.helper import (all_sums, drawn_books, drawn_row, echelon, greatest, is_lag_sum, multiplied, no_row, plain_plus,
                          plain_times, then, turned, width_of)


def multiplied_up(row, column, prime):
    """An equation with a column multiplied out."""
    total = ()
    for one, other in zip(row, column, strict=True):
        total = plain_plus(total, plain_times(one, other, prime), prime)
    return total


def drawn_sheet(columns, strands, places, width, prime):
    """The sheet that the columns draw by these strands, as [16] says."""
    return [tuple(sum(n * f[t + i] for column, f in zip(columns, strands) for i, n in enumerate(column[end])) % prime
                  for end in range(width)) for t in range(places)]


def swinging_books(seed, many):
    """(draw, book): books of which some have equations that are multiples of others."""
    for draw, book in drawn_books(seed, many, ends=3, most=3, primes=(2, 2, 3, 5)):
        (left, right), prime = book.ends(), book.prime()
        rows = [multiplied(row, draw.choice(all_sums(prime, 2)[1:]), prime) if draw.random() < 0.6 else row
                for row in book.equations()]
        yield draw, Book(rows, left=left, right=right, prime=prime)


class FreePart(unittest.TestCase):
    def test_within_and_its_own(self):
        for draw, book in swinging_books("own free part", 250):
            kept = book.equations()
            found = free_part(book)
            self.assertIsInstance(found, Book)
            self.assertEqual((found.ends(), found.prime(), found.free()), (book.ends(), book.prime(), book.free()))
            self.assertIs(within(found, book), True)
            self.assertEqual(free_part(found), found)
            self.assertLessEqual(found.lags(), book.lags())
            self.assertEqual(book.equations(), kept)

    def test_just_equations_with_a_multiple(self):
        """Equations of which a drawn multiple stands in a book are of its free part."""
        for draw, book in drawn_books("multiples", 150, ends=3, most=2, primes=(2, 3, 5)):
            (left, right), prime = book.ends(), book.prime()
            rows = book.equations()
            bys = [draw.choice(all_sums(prime, 3)[1:]) for row in rows]
            other = Book([multiplied(row, by, prime) for row, by in zip(rows, bys)], left=left, right=right, prime=prime)
            self.assertEqual(free_part(other), free_part(book))
            for row in rows:
                self.assertTrue(follows(free_part(other).equations(), row, width_of(book), prime=prime))

    def test_by_hand(self):
        book = Book([((1, 1), (1, 1))], left=1, right=1, prime=5)
        self.assertEqual(free_part(book), Book([((1,), (1,))], left=1, right=1, prime=5))
        self.assertEqual(drawn(book), [((4,), (1,))])
        self.assertEqual(swing(book), (1, 1))
        loose = book_of(then(turned(("lag",)), ("lag",)))
        self.assertEqual((free_part(loose), swing(loose)), (book_of(("wire",)), (0, 1)))
        lag = book_of(("lag",), prime=3)
        self.assertEqual((free_part(lag), swing(lag), len(drawn(lag))), (lag, (1,), 1))
        # No strand is free: the free part lets noughts alone, all else swings.
        alone = Book([((2, 0, 0, 1),)], prime=3)
        self.assertEqual((free_part(alone), drawn(alone), swing(alone)), (Book([((1,),)], prime=3), [], (2, 0, 0, 1)))
        two = Book([((1, 1), ()), ((), (1, 0, 1))], left=1)
        self.assertEqual(swing(two), (1, 0, 1))
        two = Book([((0, 1), ()), ((), (1, 1))], left=1)
        self.assertEqual(swing(two), (0, 1, 1))

    def test_no_equations_and_no_ends(self):
        for left, right in [(0, 0), (0, 1), (2, 1), (12, 12)]:
            book = Book(left=left, right=right, prime=7)
            self.assertEqual((free_part(book), swing(book)), (book, (1,)))
            self.assertEqual(len(drawn(book)), left + right)


class Drawn(unittest.TestCase):
    def test_columns(self):
        for draw, book in swinging_books("columns", 250):
            columns, prime = drawn(book), book.prime()
            self.assertIs(type(columns), list)
            self.assertEqual(len(columns), book.free())
            for column in columns:
                self.assertTrue(type(column) is tuple and len(column) == width_of(book))
                self.assertTrue(all(is_lag_sum(one, prime) for one in column))
                for row in free_part(book).equations() + book.equations():
                    self.assertEqual(multiplied_up(row, column, prime), ())
            drawn(book).clear()
            self.assertEqual(drawn(book), columns)

    def test_drawn_sheets_are_let(self):
        for draw, book in swinging_books("drawn sheets", 150):
            columns, prime, found = drawn(book), book.prime(), free_part(book)
            strands = [[draw.randrange(prime) for t in range(40)] for column in columns]
            sheet = drawn_sheet(columns, strands, 12, width_of(book), prime)
            self.assertIs(found.lets(sheet), True)
            self.assertIs(book.lets(sheet), True)

    def test_all_let_sheets_are_drawn(self):
        """The drawn ones span as much as the free part lets."""
        for draw, book in swinging_books("all drawn", 150):
            columns, prime, width, found = drawn(book), book.prime(), width_of(book), free_part(book)
            places = greatest(found) + 1
            top = max((len(one) for column in columns for one in column), default=1)
            sheets = []
            for k, column in enumerate(columns):
                for t in range(places + top):
                    strands = [[int((j, s) == (k, t)) for s in range(places + top)] for j in range(len(columns))]
                    sheets.append([n for sign in drawn_sheet(columns, strands, places, width, prime) for n in sign])
            self.assertEqual(len(echelon(sheets, prime)), found.free() * places + found.lags())

    def test_by_2_just_these(self):
        checked = 0
        for draw, book in drawn_books("by two", 60, ends=2, most=3, primes=(2,)):
            columns, width, found = drawn(book), width_of(book), free_part(book)
            top = max((len(one) for column in columns for one in column), default=1)
            for places in range(4):
                if width * places <= 8 and len(columns) * (places + top) <= 10:
                    told = {tuple(drawn_sheet(columns, strands, places, width, 2)) for strands in
                            itertools.product(itertools.product(range(2), repeat=places + top), repeat=len(columns))}
                    for numbers in itertools.product(range(2), repeat=width * places):
                        sheet = [numbers[t * width:][:width] for t in range(places)]
                        self.assertIs(found.lets(sheet), tuple(sheet) in told, book.equations())
                        checked += 1
        self.assertGreater(checked, 500)


class Swing(unittest.TestCase):
    def fits(self, book, by):
        """Whether the products of the free part's equations with a sum all follow."""
        rows = [multiplied(row, by, book.prime()) for row in free_part(book).equations()]
        told = [row for row in rows if all(len(one) <= 12 for one in row)]
        self.assertEqual(rows, told)
        return all(follows(book.equations(), row, width_of(book), prime=book.prime()) for row in rows)

    def test_least(self):
        seen = set()
        for draw, book in swinging_books("swing", 250):
            found, prime = swing(book), book.prime()
            self.assertTrue(is_lag_sum(found, prime) and found[-1] == 1)
            self.assertEqual(swing(book), found)
            self.assertIs(found == (1,), free_part(book).lags() == book.lags())
            if len(found) <= 6 and width_of(book):
                self.assertTrue(self.fits(book, found))
                if prime ** (len(found) - 1) <= 250:
                    lesser = [one for one in all_sums(prime, len(found) - 1) if one and one[-1] == 1]
                    self.assertFalse(any(self.fits(book, one) for one in lesser))
                    seen.add(found)
        self.assertGreater(len(seen), 15)

    def test_great(self):
        draw = random.Random("great swing")
        rows = [drawn_row(draw, 97, 12, 4) for k in range(12)]
        square = Book(rows, left=6, right=6, prime=97)
        self.assertEqual(free_part(square).equations(), [tuple((1,) if end == k else () for end in range(12))
                                                         for k in range(12)])
        self.assertEqual(len(swing(square)) > 12, True)
        wide = Book([drawn_row(draw, 97, 24, 4) for k in range(12)], left=12, right=12, prime=97)
        self.assertEqual(len(drawn(wide)), wide.free())
        self.assertTrue(within(free_part(wide), wide))
        self.assertEqual(free_part(Book([no_row(24)], left=12, right=12)), Book(left=12, right=12))


if __name__ == "__main__":
    unittest.main()
