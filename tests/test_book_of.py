"""The book of a wiring, by what each box says of its own strands."""

import inspect
import random
import time
import unittest

from lagworks.books import Book, book_of
from lagworks.errors import BadPrime, BadWiring, Unshaped
from lagworks.tables import told, without
from lagworks.wirings import lags, shape
from tests.helper import (ALL_PRIMES, NO_PRIMES, beside, check_told_form, drawn_fits, drawn_mix, greatest, keeps,
                          plain_ends, plain_rows, refused, ring, spans, flat, strands, then, too_great_wirings, turned,
                          windows, wrong_wirings)

SECONDS = 20


def each_box():
    """Boxes of each kind, with few ends."""
    draw = random.Random("boxes")
    found = [("wire",), ("lag",)] + [("weigh", k) for k in (0, 1, 2, 3, 5, 50, 96)]
    found += [(word, n) for word in ("copy", "sum") for n in range(5)]
    found += [drawn_mix(draw, left, right) for left in (1, 2, 3, 6) for right in (1, 2, 3, 6)]
    found += [("mix", ((0,),)), ("mix", ((0, 0), (0, 0))), ("mix", ((97 - 1,),))]
    return found + [("shuffle", tuple(draw.sample(range(n), n))) for n in (1, 2, 3, 4, 6)]


class Boxes(unittest.TestCase):
    def test_told_form_of_what_the_box_says(self):
        for box in each_box():
            left, right = plain_ends(box)
            for prime in (2, 3, 5, 97):
                book = book_of(box, prime=prime)
                self.assertIsInstance(book, Book)
                self.assertEqual((book.ends(), book.prime()), ((left, right), prime))
                self.assertEqual(book.equations(), told(plain_rows(box, prime), left + right, prime=prime), box)

    def test_turned(self):
        for box in each_box():
            left, right = plain_ends(box)
            rows = [row[left:] + row[:left] for row in plain_rows(box, 7)]
            book = book_of(turned(box), prime=7)
            self.assertEqual(book.ends(), (right, left))
            self.assertEqual(book.equations(), told(rows, left + right, prime=7), box)
            self.assertEqual(book_of(turned(turned(box)), prime=7), book_of(box, prime=7))

    def test_by_hand(self):
        self.assertEqual(book_of(("wire",), prime=5).equations(), [((4,), (1,))])
        self.assertEqual(book_of(("lag",), prime=5).equations(), [((4,), (0, 1))])
        self.assertEqual(book_of(turned(("lag",)), prime=5).equations(), [((0, 1), (4,))])
        self.assertEqual(book_of(("weigh", 3), prime=5).equations(), [((2,), (1,))])
        self.assertEqual(book_of(("weigh", 7), prime=5), book_of(("weigh", 2), prime=5))
        self.assertEqual(book_of(("weigh", 5), prime=5).equations(), [((), (1,))])
        self.assertEqual(book_of(("copy", 0)).equations(), [])
        self.assertEqual(book_of(("sum", 0)).equations(), [((1,),)])
        self.assertEqual(book_of(("sum", 2), prime=3).equations(), [((2,), (2,), (1,))])
        self.assertEqual(book_of(("copy", 2), prime=3).equations(), [((2,), (1,), ()), ((2,), (), (1,))])
        self.assertEqual(book_of(("shuffle", (1, 2, 0)), prime=3).equations(),
                         [((), (2,), (), (1,), (), ()), ((), (), (2,), (), (1,), ()), ((2,), (), (), (), (), (1,))])

    def test_prime_left_out(self):
        self.assertEqual(book_of(("weigh", 3)).prime(), 2)
        self.assertEqual(book_of(wiring=("weigh", 3)), book_of(("weigh", 1), prime=2))
        told_names = inspect.signature(book_of)
        self.assertEqual(str(told_names), "(wiring, *, prime=2)")


class Wirings(unittest.TestCase):
    def test_inner_strands_taken_out(self):
        """All equations on all strands, the inner ones taken out by a table of their own."""
        checked = 0
        for draw, prime, wiring in drawn_fits("taken out", 500):
            rows, many, left, right = strands(wiring, prime)
            ends = left + right
            if 1 <= many <= 12 and len(rows) <= 12 and ends:
                order = ends + [k for k in range(many) if k not in ends]
                ordered = [tuple(row[k] for k in order) for row in rows]
                found = without(ordered, many, list(range(len(ends), many)), prime=prime)
                self.assertEqual(book_of(wiring, prime=prime).equations(), found, wiring)
                checked += many > len(ends)
        self.assertGreater(checked, 150)

    def test_beginnings(self):
        """The book lets the beginnings of what all boxes let, and as many as these are."""
        for draw, prime, wiring in drawn_fits("beginnings", 120):
            book = book_of(wiring, prime=prime)
            rows, many, left, right = strands(wiring, prime)
            self.assertEqual(book.ends(), (len(left), len(right)), wiring)
            check_told_form(self, book.equations(), len(left + right), prime)
            places = greatest(book) + 1
            found = windows(rows, many, left + right, places, prime)
            self.assertEqual(len(found), book.free() * places + book.lags(), wiring)
            for vector in found.values():
                signs = [tuple(vector[t * len(left + right):][:len(left + right)]) for t in range(places)]
                self.assertTrue(all(keeps(row, signs, prime) for row in book.equations()), wiring)

    def test_no_more_lags_than_lag_boxes(self):
        for draw, prime, wiring in drawn_fits("fewest lags", 300):
            self.assertLessEqual(book_of(wiring, prime=prime).lags(), lags(wiring))

    def test_rings_by_hand(self):
        kept = book_of(ring(then(("sum", 2), ("copy", 2), beside(("wire",), ("lag",)))), prime=5)
        # y(t) = x(t) + y(t - 1); what is added first is free.
        self.assertEqual(kept.equations(), [((0, 4), (4, 1))])
        self.assertEqual(book_of(ring(("lag",))).equations(), [])
        self.assertEqual(book_of(ring(("weigh", 2)), prime=5).equations(), [])
        self.assertEqual(book_of(ring(beside(("copy", 1), ("sum", 0), turned(("sum", 0))))), book_of(("wire",)))
        # The lag ahead of the sum makes no other book.
        self.assertEqual(book_of(ring(then(beside(("wire",), ("lag",)), ("sum", 2), ("copy", 2))), prime=3).equations(),
                         [((0, 2), (2, 1))])

    def test_what_cannot_be_otherwise(self):
        # A lag, then one turned is a wire; the other way round what stands first on either end is free.
        self.assertEqual(book_of(then(("lag",), turned(("lag",)))), book_of(("wire",)))
        found = book_of(then(turned(("lag",)), ("lag",)), prime=3)
        self.assertEqual(found.equations(), [((0, 2), (0, 1))])
        self.assertEqual(found.lags(), 1)
        # The strand is twice itself: nought.
        self.assertEqual(book_of(then(("copy", 2), beside(("weigh", 2), ("wire",)), turned(("copy", 2))), prime=5).equations(),
                         [((1,), ()), ((), (1,))])


class Great(unittest.TestCase):
    def setUp(self):
        self.begun = time.monotonic()

    def tearDown(self):
        self.assertLess(time.monotonic() - self.begun, SECONDS)

    def test_sixty_mixes_of_twelve(self):
        draw = random.Random("sixty mixes")
        mixes = [[drawn_mix(draw, 12, 12) for k in range(12)] for layer in range(5)]
        book = book_of(then(*[then(*layer) for layer in mixes]), prime=97)
        self.assertEqual(book.ends(), (12, 12))
        for k in range(5):
            sign = tuple(draw.randrange(97) for end in range(12))
            last = sign
            for mix in [mix for layer in mixes for mix in layer]:
                last = tuple(sum(a * b for a, b in zip(row, last)) % 97 for row in mix[1])
            self.assertIs(book.lets([sign + last]), True)
            self.assertIs(book.lets([sign + last[:-1] + ((last[-1] + 1) % 97,)]), False)

    def test_eight_lags_twelve_ends(self):
        draw = random.Random("eight lags")
        layer = beside(*[("lag",)] * 4, *[turned(("lag",))] * 4, ("shuffle", (3, 1, 0, 2)))
        wiring = then(drawn_mix(draw, 12, 12), layer, turned(drawn_mix(draw, 12, 12)), drawn_mix(draw, 12, 12))
        for many in range(13):
            book = book_of(wiring, prime=97)
            self.assertEqual(book.ends(), (12 - many, 12 - many))
            self.assertLessEqual(book.lags(), 8)
            self.assertEqual(book.free(), 12 - many)
            wiring = ring(wiring)

    def test_sixty_boxes(self):
        wide = beside(*[("wire",)] * 5)
        self.assertEqual(book_of(then(*[wide] * 12), prime=5), book_of(wide, prime=5))
        row = ("lag",)
        for k in range(7):
            row = then(row, ("wire",), ("lag",), ("weigh", 2), ("weigh", 3), ("copy", 1), ("sum", 1), ("wire",))
        book = book_of(row, prime=5)
        self.assertEqual(book.equations(), [((4,), (0, 0, 0, 0, 0, 0, 0, 0, 1))])
        self.assertEqual(book.lags(), 8)

    def test_twelve_ends_of_each_kind(self):
        for box in (("mix", ((1,) * 12,)), ("mix", ((1,),) * 12), ("mix", ((0,) * 12,) * 12),
                    ("shuffle", tuple(range(11, -1, -1)))):
            for wiring in (box, turned(box), then(box, turned(box))):
                book = book_of(wiring, prime=3)
                self.assertEqual(book.ends(), shape(wiring))
                check_told_form(self, book.equations(), sum(book.ends()), 3)
        self.assertEqual(len(book_of(then(("mix", ((0,) * 12,) * 12), turned(("mix", ((0,) * 12,) * 12))))), 0)
        self.assertEqual(len(book_of(then(turned(("mix", ((0,) * 12,) * 12)), ("mix", ((0,) * 12,) * 12)))), 24)


class Refusals(unittest.TestCase):
    def test_prime_first(self):
        for prime in NO_PRIMES:
            refused(self, BadPrime, book_of, ("wire",), prime=prime)
            refused(self, BadPrime, book_of, ("no",), prime=prime)
        for prime in ALL_PRIMES:
            self.assertEqual(book_of(("wire",), prime=prime).prime(), prime)

    def test_no_wirings(self):
        for wiring in wrong_wirings() + [("use", "a"), then(("use", "a"), ("copy", 2))]:
            refused(self, BadWiring, book_of, wiring)
        for wiring in too_great_wirings():
            refused(self, BadWiring, book_of, wiring, prime=97)

    def test_unshaped(self):
        wide = ("mix", ((1,) * 12,))
        for wiring in [then(("copy", 2), ("copy", 2)), ring(("copy", 0)), ring(("sum", 0)), beside(wide, ("wire",)),
                       then(turned(wide), beside(turned(wide), ("sum", 0))), ring(ring(("wire",)))]:
            refused(self, Unshaped, book_of, wiring)
        refused(self, BadWiring, book_of, then(("copy", 2), ("copy", 2), ("copy", 5)))


class Asked(unittest.TestCase):
    def test_again(self):
        for draw, prime, wiring in drawn_fits("again", 50):
            self.assertEqual(book_of(wiring, prime=prime).equations(), book_of(wiring, prime=prime).equations())

    def test_let_windows(self):
        """Sheets that the strands of all boxes begin with are let, others are not."""
        seen = [0, 0]
        for draw, prime, wiring in drawn_fits("windows", 80):
            book = book_of(wiring, prime=prime)
            rows, many, left, right = strands(wiring, prime)
            places = draw.randint(0, 4)
            found = windows(rows, many, left + right, places, prime)
            for k in range(10):
                sheet = [tuple(draw.randrange(prime) for end in left + right) for t in range(places)]
                if k % 2:
                    vector = [0] * (places * len(left + right))
                    for one in found.values():
                        by = draw.randrange(prime)
                        vector = [(a + by * b) % prime for a, b in zip(vector, one)]
                    sheet = [tuple(vector[t * len(left + right):][:len(left + right)]) for t in range(places)]
                let = spans(found, flat(sheet), prime)
                self.assertIs(book.lets(sheet), let, wiring)
                seen[let] += 1
        self.assertGreater(min(seen), 80)


if __name__ == "__main__":
    unittest.main()
