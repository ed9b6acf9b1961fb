"""Watches: fed signs, their sheet always let."""

import inspect
import unittest

from lagworks.books import Book, book_of
from lagworks.errors import BadSheet, Nothing, Stopped
from lagworks.watching import Watch
from tests.helper import (all_signs, beside, drawn_books, drawn_sign, head_and_height, keeps, plain_reading, refused, ring,
                          then, width_of)

BIG = 99999999999999999999


def let_signs(book, sheet):
    """All signs behind which the longer sheet is let."""
    return [sign for sign in all_signs(width_of(book), book.prime()) if book.lets(sheet + [sign])]


def small_books(seed, many):
    """(draw, book): books with few signs."""
    for draw, book in drawn_books(seed, many, ends=3, most=3, primes=(2, 2, 3, 5)):
        if book.prime() ** width_of(book) <= 30:
            yield draw, book


class Fed(unittest.TestCase):
    def test_what_may_come(self):
        stopped = 0
        for draw, book in small_books("may come", 200):
            watch = Watch(book)
            for many in range(6):
                sheet = watch.sheet()
                self.assertEqual(len(watch), many)
                may = let_signs(book, sheet)
                self.assertEqual(watch.ways(), len(may))
                for sign in all_signs(width_of(book), book.prime()):
                    self.assertIs(watch.may(sign), sign in may)
                    if sign not in may:
                        found = refused(self, Stopped, watch.feed, sign)
                        self.assertIn(found.equation, book.equations())
                        self.assertFalse(keeps(found.equation, sheet + [sign], book.prime()))
                        stopped += 1
                    self.assertEqual((watch.sheet(), len(watch)), (sheet, many))
                sign = draw.choice(may)
                self.assertIsNone(watch.feed(sign))
                self.assertEqual(watch.sheet(), sheet + [sign])
                self.assertIs(book.lets(watch.sheet()), True)
        self.assertGreater(stopped, 500)

    def test_ways(self):
        for draw, book in drawn_books("ways", 150):
            watch = Watch(book)
            for many in range(5):
                bound = [row for row in book.equations() if head_and_height(row)[1] <= many]
                self.assertEqual(watch.ways(), book.prime() ** (width_of(book) - len(bound)))
                watch.feed((0,) * width_of(book))

    def test_ways_of_many_ends(self):
        self.assertEqual(Watch(Book(left=12, right=12, prime=97)).ways(), 97 ** 24)
        self.assertEqual(Watch(Book(left=0, right=0)).ways(), 1)

    def test_stopped_equation(self):
        # Of the two equations only the second one, of a lesser height, can be broken by a second sign.
        book = Book([((1, 0, 0, 1), ()), ((), (1, 1))], left=1, prime=3)
        watch = Watch(book)
        watch.feed((1, 1))
        self.assertEqual(refused(self, Stopped, watch.feed, (1, 1)).equation, ((), (1, 1)))
        watch.feed((1, 2))
        watch.feed((0, 1))
        self.assertEqual(refused(self, Stopped, watch.feed, (1, 2)).equation, ((1, 0, 0, 1), ()))
        self.assertIn(refused(self, Stopped, watch.feed, (1, 1)).equation, book.equations())
        watch.feed((2, 2))
        self.assertEqual(plain_reading(((1, 0, 0, 1), ()), watch.sheet(), 0, 3), 0)

    def test_more_than_60_signs(self):
        book = book_of(ring(then(("sum", 2), ("copy", 2), beside(("wire",), ("lag",)))), prime=97)
        watch, total = Watch(book), 0
        for t in range(200):
            total = (total + t) % 97
            self.assertIs(watch.may((t % 97, (total + 1) % 97)), t == 0)
            watch.feed((t % 97, total))
        self.assertEqual(len(watch), 200)
        self.assertIs(book.lets(watch.sheet()), True)
        self.assertEqual(watch.ways(), 97)

    def test_no_ends(self):
        watch = Watch(Book(left=0, right=0))
        watch.feed(())
        self.assertEqual((watch.sheet(), len(watch), watch.may(()), watch.ways()), ([()], 1, True, 1))
        refused(self, BadSheet, watch.feed, (0,))


class BackAndTwins(unittest.TestCase):
    def test_back(self):
        for draw, book in small_books("back", 80):
            watch, fed = Watch(book), []
            refused(self, Nothing, watch.back)
            for k in range(12):
                if fed and draw.random() < 0.4:
                    self.assertEqual(watch.back(), fed.pop())
                else:
                    fed.append(draw.choice(let_signs(book, fed)))
                    watch.feed(fed[-1])
                self.assertEqual((watch.sheet(), len(watch)), (fed, len(fed)))
            while fed:
                self.assertEqual(watch.back(), fed.pop())
            refused(self, Nothing, watch.back)
            self.assertEqual(watch, Watch(book))

    def test_twins(self):
        book = book_of(("lag",), prime=5)
        watch = Watch(book)
        watch.feed((1, 2))
        twin = watch.twin()
        self.assertIsInstance(twin, Watch)
        self.assertEqual(twin, watch)
        twin.feed((3, 1))
        self.assertEqual((watch.sheet(), twin.sheet()), ([(1, 2)], [(1, 2), (3, 1)]))
        watch.back()
        watch.feed((4, 4))
        self.assertEqual((watch.sheet(), twin.sheet()), ([(4, 4)], [(1, 2), (3, 1)]))
        self.assertEqual(twin.twin().twin(), twin)

    def test_told_sheets_spoilt(self):
        watch = Watch(Book())
        watch.feed((1,))
        watch.sheet().append((0,))
        watch.sheet().clear()
        self.assertEqual((watch.sheet(), len(watch)), ([(1,)], 1))
        held = watch.sheet()
        watch.feed((0,))
        self.assertEqual(held, [(1,)])


class Told(unittest.TestCase):
    def test_book(self):
        for draw, book in drawn_books("books of watches", 50):
            watch = Watch(book)
            self.assertEqual(watch.book(), book)
            self.assertEqual((watch.sheet(), len(watch)), ([], 0))
        self.assertEqual(str(inspect.signature(Watch)), "(book)")
        self.assertEqual(Watch(book=Book()).book(), Book())

    def test_equal(self):
        book = Book([((1,), (1,))], left=1, prime=3)
        one, other = Watch(book), Watch(Book([((2,), (2,))], left=1, prime=3))
        self.assertTrue(one == other and not one != other)
        one.feed((1, 2))
        self.assertTrue(one != other and not one == other)
        other.feed((2, 1))
        self.assertNotEqual(one, other)
        other.back()
        other.feed((1, 2))
        self.assertEqual(one, other)
        for more in (Book(left=1, prime=3), Book([((1,), (1,))], left=0, right=2, prime=3)):
            third = Watch(more)
            third.feed((1, 2))
            self.assertNotEqual(one, third)
        for thing in (None, 1, [(1, 2)], one.sheet(), book, "", ()):
            self.assertIs(one == thing, False)
            self.assertIs(thing == one, False)
            self.assertIs(one != thing, True)
        self.assertIn(other, [Watch(book), one])


class Refusals(unittest.TestCase):
    def test_bad_signs(self):
        watch = Watch(Book([((1,), (1,))], left=1, prime=3))
        for many in range(3):
            for wrong in [(), (0,), (0, 0, 0), (3, 0), (0, -1), (BIG, 0), (0, -BIG), (0,) * 60]:
                for action in (watch.feed, watch.may):
                    self.assertEqual(refused(self, BadSheet, action, wrong).at, 0)
                    self.assertEqual(refused(self, BadSheet, action, sign=wrong).at, 0)
                self.assertEqual(len(watch), many)
            watch.feed((many, -many % 3))

    def test_drawn_signs(self):
        for draw, book in drawn_books("drawn signs", 100):
            watch = Watch(book)
            for k in range(6):
                sign = drawn_sign(draw, width_of(book), book.prime())
                may = book.lets(watch.sheet() + [sign])
                self.assertIs(watch.may(sign), may)
                if may:
                    watch.feed(sign)
                else:
                    refused(self, Stopped, watch.feed, sign)


if __name__ == "__main__":
    unittest.main()
