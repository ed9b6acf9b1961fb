"""Which sheets a book lets: by hand, by all sheets of small books, by beginnings of strands."""

import copy
import random
import unittest

from lagworks.books import Book, book_of
from lagworks.errors import BadSheet
from tests.helper import (all_signs, beside, drawn_books, drawn_sign, flat, greatest, refused, ring, spans, then, turned,
                          width_of, windows)

BIG = 99999999999999999999


class ByHand(unittest.TestCase):
    def check(self, wiring, prime, signs):
        """The sheet and all its beginnings are let; with one number else at its last place it is not."""
        book = book_of(wiring, prime=prime)
        for many in range(len(signs) + 1):
            self.assertIs(book.lets(signs[:many]), True, (wiring, signs[:many]))
            self.assertIs(book.lets(tuple(signs[:many])), True)
        return book

    def strand(self, seed, prime, many):
        draw = random.Random(seed)
        return [draw.randrange(prime) for t in range(many)]

    def else_at(self, book, signs, place, end):
        """Whether the sheet is let with one number else."""
        other = list(signs[place])
        other[end] = (other[end] + 1) % book.prime()
        return book.lets(signs[:place] + [tuple(other)] + signs[place + 1:])

    def test_lag(self):
        for many in range(13):
            x = self.strand(("lag", many).__repr__(), 5, many)
            signs = [(x[t], 3 if t == 0 else x[t - 1]) for t in range(many)]
            book = self.check(("lag",), 5, signs)
            for place in range(many):
                # What stands first on the right, and last on the left, is free.
                self.assertIs(self.else_at(book, signs, place, 1), place == 0)
                self.assertIs(self.else_at(book, signs, place, 0), place == many - 1)

    def test_rows_of_lags(self):
        x = self.strand("rows of lags", 7, 12)
        for many in range(1, 9):
            first = [6, 5, 4, 3, 2, 1, 0, 6][:many]
            signs = [(x[t], (first + x)[t]) for t in range(12)]
            book = self.check(then(*[("lag",)] * many), 7, signs)
            self.assertIs(self.else_at(book, signs, 11, 1), False)
            self.assertIs(self.else_at(book, signs, many - 1, 1), True)
            self.assertIs(self.else_at(book, signs, many, 1), False)
            self.check(turned(then(*[("lag",)] * many)), 7, [sign[::-1] for sign in signs])

    def test_weights_copies_sums(self):
        x, y = self.strand("x", 5, 10), self.strand("y", 5, 10)
        for k in (0, 1, 3, 5, 8, 96):
            signs = [(a, a * k % 5) for a in x]
            book = self.check(("weigh", k), 5, signs)
            self.assertFalse(any(self.else_at(book, signs, place, 1) for place in range(10)))
            self.assertEqual([self.else_at(book, signs, place, 0) for place in range(10)], [k % 5 == 0] * 10)
        for n in range(5):
            signs = [(a,) * (n + 1) for a in x]
            book = self.check(("copy", n), 5, signs)
            self.assertEqual([self.else_at(book, signs, 4, end) for end in range(n + 1)], [n == 0] * (n + 1))
            signs = [((a, b) * 2)[:n] + (sum(((a, b) * 2)[:n]) % 5,) for a, b in zip(x, y)]
            book = self.check(("sum", n), 5, signs)
            self.assertFalse(any(self.else_at(book, signs, 9, end) for end in range(n + 1)))
        signs = [(a, b, (2 * a + 3 * b) % 5, b) for a, b in zip(x, y)]
        book = self.check(("mix", ((2, 3), (0, 96))), 5, signs)
        self.assertFalse(any(self.else_at(book, signs, place, end) for place in (0, 9) for end in (1, 2, 3)))
        self.check(("shuffle", (1, 2, 0)), 5, [(a, b, (a + b) % 5, b, (a + b) % 5, a) for a, b in zip(x, y)])

    def test_rings_run_round(self):
        x, prime = self.strand("rings", 11, 12), 11
        # y(t) = x(t) + 3 * s(t); s(t + 1) = y(t), s(0) free.
        wiring = ring(then(beside(("wire",), ("weigh", 3)), ("sum", 2), ("copy", 2), beside(("wire",), ("lag",))))
        for s in range(prime):
            signs = []
            for a in x:
                y = (a + 3 * s) % prime
                signs.append((a, y))
                s = y
            book = self.check(wiring, prime, signs)
            self.assertEqual([self.else_at(book, signs, place, 1) for place in range(12)], [False] * 12)
            self.assertEqual([self.else_at(book, signs, place, 0) for place in (0, 11)], [True, False])

    def test_two_rings(self):
        # Each number is the sum of the two ahead of it; both first ones are free.
        wiring = then(turned(("copy", 0)), ring(ring(then(("mix", ((0, 1, 1), (0, 1, 1), (0, 1, 0))),
                                                          beside(("wire",), ("lag",), ("lag",))))))
        for a in range(5):
            for b in range(5):
                row = [a, b]
                while len(row) < 12:
                    row.append((row[-1] + row[-2]) % 5)
                book = self.check(wiring, 5, [(n,) for n in row])
                self.assertEqual([self.else_at(book, [(n,) for n in row], place, 0) for place in range(12)], [False] * 12)
                self.assertIs(self.else_at(book, [(n,) for n in row[:2]], 1, 0), True)


class AllSheets(unittest.TestCase):
    def sheets(self, book, places):
        """All sheets of so many places, by what lets and by beginnings of strands; how many are let."""
        width, prime = width_of(book), book.prime()
        found = windows(book.equations(), width, list(range(width)), places, prime)
        let = 0
        for numbers in all_signs(width * places, prime):
            sheet = [numbers[t * width:(t + 1) * width] for t in range(places)]
            told = book.lets(sheet)
            self.assertIs(told, spans(found, flat(sheet), prime), (book.equations(), sheet))
            let += told
        return let

    def test_counted(self):
        checked = 0
        for prime, most in ((2, 9), (3, 5)):
            for draw, book in drawn_books(f"counted {prime}", 60, ends=3, most=3, primes=(prime,)):
                for places in range(6):
                    if width_of(book) * places <= most:
                        let = self.sheets(book, places)
                        if places >= greatest(book):
                            self.assertEqual(let, prime ** (book.free() * places + book.lags()))
                            checked += 1
        self.assertGreater(checked, 150)


class Closed(unittest.TestCase):
    def drawn_let(self, draw, book, places):
        """A let sheet."""
        width, prime = width_of(book), book.prime()
        vector = [0] * (width * places)
        for one in windows(book.equations(), width, list(range(width)), places, prime).values():
            by = draw.randrange(prime)
            vector = [(a + by * b) % prime for a, b in zip(vector, one)]
        return [tuple(vector[t * width:(t + 1) * width]) for t in range(places)]

    def test_sums_weights_and_less(self):
        for draw, book in drawn_books("closed", 80, ends=3):
            prime, places = book.prime(), draw.randint(0, 6)
            one, other = self.drawn_let(draw, book, places), self.drawn_let(draw, book, places)
            k = draw.randrange(prime)
            both = [tuple((a + b) % prime for a, b in zip(x, y)) for x, y in zip(one, other)]
            times = [tuple(a * k % prime for a in x) for x in one]
            for sheet in (one, other, both, times, one[1:], both[2:], [(0,) * width_of(book)] * 60):
                self.assertIs(book.lets(sheet), True)
            for many in range(places):
                self.assertIs(book.lets(one[:many]), True)


class Refusals(unittest.TestCase):
    def test_first_bad_place(self):
        draw = random.Random("bad places")
        book = Book([((1,), (2, 1), ())], left=1, right=2, prime=5)
        for wrong in [(), (0,), (0, 0), (0, 0, 0, 0), (0,) * 60, (5, 0, 0), (0, -1, 0), (0, 0, BIG), (-BIG, 0, 0),
                      (0, 0, 5), (0, 97, 0)]:
            for at in (0, 1, 2, 59):
                good = [drawn_sign(draw, 3, 5) for t in range(60)]
                sheet = good[:at] + [wrong] + good[at + 1:]
                kept = copy.deepcopy(sheet)
                self.assertEqual(refused(self, BadSheet, book.lets, sheet).at, at)
                self.assertEqual(refused(self, BadSheet, book.lets, sheet=tuple(sheet)).at, at)
                self.assertEqual(sheet, kept)
                # Several bad ones: the first one.
                self.assertEqual(refused(self, BadSheet, book.lets, sheet[:at + 1] + [(), (9, 9, 9)]).at, at)
        # Bad signs count ahead of what is not let.
        self.assertEqual(refused(self, BadSheet, book.lets, [(0, 0, 0), (1, 1, 1), (1, 1, 1), (9, 0, 0)]).at, 3)

    def test_no_ends(self):
        book = Book(left=0, right=0)
        self.assertEqual(refused(self, BadSheet, book.lets, [(), (), (0,)]).at, 2)
        self.assertIs(book.lets([(), ()]), True)

    def test_by_prime(self):
        for prime in (2, 3, 97):
            book = Book(prime=prime)
            self.assertIs(book.lets([(prime - 1,)]), True)
            self.assertEqual(refused(self, BadSheet, book.lets, [(prime - 1,), (prime,)]).at, 1)


if __name__ == "__main__":
    unittest.main()
