"""Machines wired: wirings whose book is the machine's."""

import random
import unittest

from lagworks.books import Book, book_of
from lagworks.choices import leads
from lagworks.errors import Full
from lagworks.machines import machine, wired
from lagworks.tongue import read, write
from lagworks.wirings import boxes, lags, shape
from tests.helper import beside, drawn_books, drawn_row, refused, then, turned, width_of


class Wired(unittest.TestCase):
    def check(self, book, chosen):
        one = machine(book, chosen)
        found = wired(one)
        self.assertEqual(shape(found), book.ends())
        self.assertEqual(lags(found), one.lags())
        self.assertEqual(book_of(found, prime=book.prime()), book)
        self.assertLessEqual(boxes(found), 60)
        self.assertEqual(read(write(found)), found)
        self.assertEqual(wired(machine=machine(book, chosen)), found)

    def test_drawn(self):
        seen = set()
        for ends, most in ((2, 4), (4, 3), (6, 2), (6, 3)):
            for draw, book in drawn_books(f"wired {ends} {most}", 200, ends=ends, most=most):
                if book.lags() <= 6:
                    self.check(book, draw.choice(leads(book)))
                    seen.add((book.lags(), min(1, book.ends()[0]), min(1, book.ends()[1]), min(1, len(book))))
        self.assertGreater(len(seen), 20)

    def test_each_side_and_no_lags(self):
        for prime in (2, 97):
            for left in range(7):
                for right in range(7 - left):
                    none = Book(left=left, right=right, prime=prime)
                    self.check(none, list(range(left + right)))
                    width = left + right
                    noughts = [tuple((1,) if end == k else () for end in range(width)) for k in range(width)]
                    self.check(Book(noughts, left=left, right=right, prime=prime), [])

    def test_six_ends_and_six_lags(self):
        draw, checked = random.Random("six and six"), 0
        for k in range(200):
            left = draw.randint(0, 6)
            book = Book([drawn_row(draw, 97, 6, 3) for row in range(3)], left=left, right=6 - left, prime=97)
            if book.lags() == 6:
                self.check(book, draw.choice(leads(book)))
                checked += 1
        self.assertGreater(checked, 20)
        row = book_of(then(*[("lag",)] * 6), prime=3)
        self.check(row, [0])
        self.check(row.turned(), [1])
        wide = book_of(beside(*[("lag",)] * 3), prime=3)
        self.check(wide.beside(Book(left=0, right=0, prime=3)), [0, 1, 2])
        alone = Book([((1, 0, 0, 0, 0, 0, 1),)], left=0, right=1, prime=5)
        self.check(alone, [])
        self.check(alone.turned(), [])

    def test_full(self):
        for sides in ((7, 0), (0, 7), (4, 3), (12, 12)):
            book = Book(left=sides[0], right=sides[1])
            refused(self, Full, wired, machine(book, list(range(width_of(book)))))
        for many in (7, 8):
            refused(self, Full, wired, machine(book_of(then(*[("lag",)] * many)), [0]))
            refused(self, Full, wired, machine(book_of(turned(then(*[("lag",)] * many))), [1]))
        refused(self, Full, wired, machine(book_of(beside(*[("lag",)] * 7)), list(range(7))))


if __name__ == "__main__":
    unittest.main()
