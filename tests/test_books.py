"""Books: what is handed in, what they tell of themselves, and when they are equal."""

import copy
import inspect
import random
import unittest

from lagworks.books import Book, book_of
from lagworks.errors import BadPrime, BadTable, BadWidth
from lagworks.tables import told
from tests.helper import (ALL_PRIMES, NO_PRIMES, check_told_form, drawn_book, drawn_books, drawn_row, drawn_sum,
                          drawn_tables, head_and_height, multiplied, added_rows, no_row, refused, width_of)

BIG = 99999999999999999999


def plain_text(one):
    """The text of a lag sum, as [3] says."""
    terms = []
    for place, n in enumerate(one):
        if n:
            z = "" if place == 0 else "z" if place == 1 else f"z^{place}"
            terms.append(z if n == 1 and z else f"{n}{z}")
    return " + ".join(terms) or "0"


class HandedIn(unittest.TestCase):
    def test_defaults(self):
        book = Book()
        self.assertEqual((book.equations(), book.ends(), book.prime()), ([], (0, 1), 2))
        self.assertEqual((book.heights(), book.lags(), book.free(), len(book)), ([], 0, 1, 0))
        self.assertEqual(Book([((1, 1),)]).equations(), [((1, 1),)])
        self.assertEqual(Book(left=2).ends(), (2, 1))
        self.assertEqual(Book(right=0).ends(), (0, 0))
        self.assertEqual(Book(prime=5).prime(), 5)
        self.assertEqual(str(inspect.signature(Book)), "(equations=(), *, left=0, right=1, prime=2)")
        self.assertEqual(Book(equations=[((1,), ())], left=1), Book([((1,), ())], left=1, right=1, prime=2))

    def test_told_form(self):
        for draw, prime, width, rows in drawn_tables("books", 500):
            left = draw.randint(0, width)
            book = Book(rows, left=left, right=width - left, prime=prime)
            self.assertEqual(book.equations(), told(rows, width, prime=prime))
            self.assertEqual((book.ends(), book.prime()), ((left, width - left), prime))
            check_told_form(self, book.equations(), width, prime)

    def test_no_ends(self):
        for rows in ([], [()], [()] * 12, (), ((),)):
            book = Book(rows, left=0, right=0, prime=7)
            self.assertEqual((book.equations(), book.ends(), book.free(), book.lags()), ([], (0, 0), 0, 0))
            self.assertEqual((str(book), repr(book), len(book)), ("", "Book(0 to 0, 0 equations, by 7)", 0))
            self.assertTrue(book.lets([]) and book.lets([()]) and book.lets([()] * 60))

    def test_all_ends(self):
        for left in range(13):
            for right in range(13):
                self.assertEqual(Book([no_row(left + right)], left=left, right=right).ends(), (left, right))

    def test_list_or_tuple_changed_behind(self):
        rows = [((1, 1), (2,)), ((), (0, 1))]
        book, kept = Book(rows, left=1, right=1, prime=3), copy.deepcopy(rows)
        self.assertEqual(rows, kept)
        self.assertEqual(book, Book(tuple(rows), left=1, right=1, prime=3))
        before = book.equations()
        rows.append(((1,), (1,)))
        rows[0] = ((), (1,))
        self.assertEqual(book.equations(), before)
        self.assertEqual(book, Book(kept, left=1, right=1, prime=3))

    def test_told_lists_spoilt(self):
        for draw, book in drawn_books("spoilt", 100):
            rows, heights = book.equations(), book.heights()
            self.assertIsNot(book.equations(), book.equations())
            book.equations().append("x")
            book.heights().clear()
            book.equations().reverse()
            book.heights().append(5)
            self.assertEqual((book.equations(), book.heights()), (rows, heights))

    def test_twelve_equations(self):
        draw = random.Random("twelve equations")
        rows = [drawn_row(draw, 5, 24, 12) for k in range(12)]
        book = Book(rows, left=12, right=12, prime=5)
        self.assertEqual(len(book), 12)
        check_told_form(self, book.equations(), 24, 5)


class Refusals(unittest.TestCase):
    def test_prime_first(self):
        for prime in NO_PRIMES:
            refused(self, BadPrime, Book, [((9, 9),)] * 13, left=-1, right=99, prime=prime)
        for prime in ALL_PRIMES:
            self.assertEqual(Book(prime=prime).prime(), prime)

    def test_widths(self):
        for wrong in (-1, 13, 14, 24, BIG, -BIG):
            for named in ({"left": wrong}, {"right": wrong}, {"left": wrong, "right": wrong}, {"left": 12, "right": wrong}):
                refused(self, BadWidth, Book, [((9,),)], **named)
                refused(self, BadWidth, Book, **named)

    def test_tables(self):
        good = ((1,), (0, 1), ())
        for wrong in [(), ((1,),), ((1,),) * 2, ((1,),) * 4, ((1,), (0,), ()), ((1,), (), (1, 0)), ((3,), (), ()),
                      ((), (-1,), ()), ((), (), (BIG,)), ((), (1,) * 13, ()), ((-BIG,), (), ()), ((0,) * 12, (), ())]:
            for at in (0, 1, 5, 11):
                rows = [good] * at + [wrong] + [good] * (11 - at)
                for handed in (rows, tuple(rows), rows + [wrong] * 5, [*rows[:at + 1], wrong]):
                    self.assertEqual(refused(self, BadTable, Book, handed, left=1, right=2, prime=3).at, at)
        for many in (13, 14, 60):
            self.assertEqual(refused(self, BadTable, Book, [good] * many, left=1, right=2, prime=3).at, 12)
            self.assertEqual(refused(self, BadTable, Book, [good] * 12 + [((9,),)] * (many - 12), left=3, right=0).at, 12)
        self.assertEqual(refused(self, BadTable, Book, [(), ((),)], left=0, right=0).at, 1)
        self.assertEqual(refused(self, BadTable, Book, [()]).at, 0)


class Told(unittest.TestCase):
    def test_counts(self):
        for draw, book in drawn_books("counts", 400):
            rows, (left, right) = book.equations(), book.ends()
            heights = [head_and_height(row)[1] for row in rows]
            self.assertIs(type(book.heights()), list)
            self.assertEqual(book.heights(), heights)
            self.assertEqual(book.lags(), sum(heights))
            self.assertEqual(book.free(), left + right - len(rows))
            self.assertEqual(len(book), len(rows))
            self.assertEqual(repr(book), f"Book({left} to {right}, {len(rows)} equations, by {book.prime()})")
            self.assertEqual(str(book), "\n".join(", ".join(plain_text(one) for one in row) for row in rows))

    def test_by_hand(self):
        book = Book([((2, 0, 3), (4,), ())], left=2, right=1, prime=5)
        self.assertEqual(repr(book), "Book(2 to 1, 1 equations, by 5)")
        self.assertEqual(str(book), "4 + z^2, 3, 0")
        book = book_of(("copy", 2), prime=3)
        self.assertEqual(str(book), "2, 1, 0\n2, 0, 1")
        self.assertEqual(str(Book()), "")
        self.assertEqual(str(Book([((0, 1),)])), "z")

    def test_kinds(self):
        for draw, book in drawn_books("kinds", 50):
            self.assertIs(type(book.ends()), tuple)
            for number in (*book.ends(), book.prime(), book.lags(), book.free(), len(book), *book.heights()):
                self.assertIs(type(number), int)


class Equal(unittest.TestCase):
    def test_another_order_or_weighed(self):
        for draw, prime, width, rows in drawn_tables("equal", 300):
            left = draw.randint(0, width)
            ends = {"left": left, "right": width - left, "prime": prime}
            book, other = Book(rows, **ends), list(rows)
            draw.shuffle(other)
            other = [multiplied(row, (draw.randint(1, prime - 1),), prime) for row in other]
            if len(other) > 1:
                other[0] = added_rows(other[0], multiplied(other[1], drawn_sum(draw, prime, 2), prime), prime)
            if all(len(one) <= 12 for row in other for one in row):
                self.assertTrue(book == Book(other, **ends))
                self.assertFalse(book != Book(other, **ends))
                self.assertTrue(book == Book(book.equations(), **ends))

    def test_unlike(self):
        book = Book([((1,), (1,))], left=1, right=1, prime=3)
        for other in [Book([((1,), (1,))], left=2, right=0, prime=3), Book([((1,), (1,))], left=0, right=2, prime=3),
                      Book([((1,), (1,))], left=1, right=1, prime=5), Book([((1,), (2,))], left=1, right=1, prime=3),
                      Book(left=1, right=1, prime=3), Book([((0, 1), (0, 1))], left=1, right=1, prime=3),
                      Book([((1,), ()), ((), (1,))], left=1, right=1, prime=3)]:
            self.assertTrue(book != other and other != book)
            self.assertFalse(book == other or other == book)
        self.assertNotEqual(Book(), Book(prime=3))
        self.assertNotEqual(Book(), Book(right=2))

    def test_what_is_no_book(self):
        book = Book([((1,),)])
        for other in (None, 1, 0, "", str(book), repr(book), [((1,),)], (((1,),),), [], (), {}, book.equations()):
            self.assertIs(book == other, False)
            self.assertIs(other == book, False)
            self.assertIs(book != other, True)
            self.assertIs(other != book, True)

    def test_looked_for_in_a_list(self):
        draw = random.Random("in a list")
        books = [drawn_book(draw) for k in range(30)]
        for book in books:
            left, right = book.ends()
            again = Book(book.equations(), left=left, right=right, prime=book.prime())
            self.assertIn(again, books)
            self.assertEqual(books[books.index(again)], book)
            if width_of(book):
                self.assertNotIn(Book(left=12, right=right, prime=book.prime()), books)


if __name__ == "__main__":
    unittest.main()
