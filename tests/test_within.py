"""A book within another one, and a sheet that parts them."""

import random
import unittest

from lagworks.books import Book, book_of, parting, within
from lagworks.errors import Unlike
from lagworks.tables import follows
from tests.helper import (added_rows, drawn_book, drawn_row, drawn_sum, greatest, multiplied, refused, then, turned,
                          width_of)


def drawn_pair(draw):
    """Two books of like ends and prime; often one within the other, or nearly."""
    one = drawn_book(draw, ends=4, most=3)
    (left, right), prime = one.ends(), one.prime()
    rows = one.equations()
    way = draw.randint(0, 3)
    if way == 0:
        rows = [drawn_row(draw, prime, left + right, 3) for k in range(draw.randint(0, 3))]
    elif way == 1 and rows:
        rows = [multiplied(row, drawn_sum(draw, prime, 2), prime) for row in rows]
    elif way == 2:
        rows = rows[:draw.randint(0, len(rows))]
    elif rows:
        rows[0] = added_rows(rows[0], drawn_row(draw, prime, left + right, 1), prime)
    return one, Book(rows, left=left, right=right, prime=prime)


class Within(unittest.TestCase):
    def test_all_follow(self):
        seen = [0, 0]
        draw = random.Random("within")
        for k in range(400):
            pair = drawn_pair(draw)
            for one, other in (pair, pair[::-1]):
                told = all(follows(one.equations(), row, width_of(one), prime=one.prime()) for row in other.equations())
                self.assertIs(within(one, other), told)
                seen[told] += 1
        self.assertGreater(min(seen), 150)

    def test_both_ways_is_equal(self):
        draw = random.Random("both within")
        for k in range(300):
            one, other = drawn_pair(draw)
            self.assertIs(within(one, other) and within(other, one), one == other)
            self.assertIs(within(one=one, other=one), True)

    def test_by_hand(self):
        lag, wire = book_of(("lag",), prime=3), book_of(("wire",), prime=3)
        self.assertIs(within(lag, wire), False)
        nothing, anything = Book([((1,), ()), ((), (1,))], left=1, prime=3), Book(left=1, prime=3)
        for book in (lag, wire, nothing, anything):
            self.assertIs(within(nothing, book), True)
            self.assertIs(within(book, anything), True)
            self.assertIs(within(book, nothing), book == nothing)
        # Through a lag and back, what stands first may be anything.
        loose = book_of(then(turned(("lag",)), ("lag",)), prime=3)
        self.assertIs(within(wire, loose), True)
        self.assertIs(within(loose, wire), False)
        self.assertEqual(len(parting(loose, wire)), 1)


class Parting(unittest.TestCase):
    def test_parted_sheets(self):
        seen = [0, 0]
        draw = random.Random("parting")
        for k in range(400):
            pair = drawn_pair(draw)
            for one, other in (pair, pair[::-1]):
                sheet = parting(one, other)
                seen[sheet is None] += 1
                if within(one, other):
                    self.assertIsNone(sheet)
                    continue
                self.assertIs(type(sheet), list)
                self.assertTrue(all(type(sign) is tuple for sign in sheet))
                self.assertLessEqual(len(sheet), greatest(other) + 1)
                self.assertIs(one.lets(sheet), True)
                self.assertIs(other.lets(sheet), False)
                again = parting(one, other)
                self.assertEqual(again, sheet)
                sheet.clear()
                self.assertEqual(parting(one, other), again)
        self.assertGreater(min(seen), 150)

    def test_no_ends(self):
        self.assertIsNone(parting(Book(left=0, right=0), Book(left=0, right=0)))
        self.assertIs(within(Book(left=0, right=0), Book(left=0, right=0)), True)


class Refusals(unittest.TestCase):
    def test_unlike(self):
        book = Book([((1,), (1,))], left=1, right=1, prime=3)
        for other in [Book(left=2, right=0, prime=3), Book(left=0, right=2, prime=3), Book(left=1, right=2, prime=3),
                      Book(left=1, right=1, prime=5), Book(left=1, right=1), Book(prime=5), Book(left=0, right=0, prime=3)]:
            for action in (within, parting):
                refused(self, Unlike, action, book, other)
                refused(self, Unlike, action, other, book)


if __name__ == "__main__":
    unittest.main()
