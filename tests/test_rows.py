"""Equations as rows of lag sums."""

import random
import unittest

from lagworks.rows import head, height, is_nought, is_row, level_row, nought_row, reading, row_less
from tests.helper import drawn_sum, multiplied, plain_minus, plain_times


def drawn_rows(seed, many):
    """(prime, row, other, sum), the rows of one width."""
    draw = random.Random(seed)
    for k in range(many):
        prime, width = draw.choice([2, 3, 5, 97]), draw.randint(1, 12)
        rows = [tuple(drawn_sum(draw, prime, 5) for end in range(width)) for row in range(2)]
        yield prime, rows[0], rows[1], drawn_sum(draw, prime, 5)


class Reckoning(unittest.TestCase):
    def test_end_by_end(self):
        for prime, row, other, by in drawn_rows("rows", 400):
            less = tuple(plain_minus(a, plain_times(b, by, prime), prime) for a, b in zip(row, other))
            self.assertEqual(row_less(row, other, by, prime), less)
            self.assertEqual(row_less(row, other, (), prime), row)

    def test_nought(self):
        self.assertEqual(nought_row(3), ((), (), ()))
        self.assertEqual(nought_row(0), ())
        for prime, row, other, by in drawn_rows("nought rows", 100):
            self.assertTrue(is_nought(row_less(row, row, (1,), prime)))
            self.assertEqual(is_nought(row), row == nought_row(len(row)))
        self.assertFalse(is_nought(((), (1,), ())))


class Heads(unittest.TestCase):
    def test_told_ones(self):
        for row, top, end in [(((1,),), 0, 0), (((1, 1), (1,)), 1, 0), (((1, 1), (0, 1)), 1, 1),
                              (((), (0, 0, 2), (1,), (1, 0, 1), ()), 2, 3), (((1,), (2,), ()), 0, 1)]:
            self.assertEqual((height(row), head(row)), (top, end))

    def test_level(self):
        self.assertEqual(level_row(((1, 2), (0, 3), (4,)), 5), ((2, 4), (0, 1), (3,)))
        for prime, row, other, by in drawn_rows("level rows", 300):
            if not is_nought(row):
                found = level_row(row, prime)
                self.assertEqual(found[head(found)][-1], 1)
                self.assertEqual(multiplied(found, row[head(row)][-1:], prime), row)


class Looking(unittest.TestCase):
    def test_is_row(self):
        for prime, row, other, by in drawn_rows("looking", 100):
            self.assertTrue(is_row(row, len(row), prime))
            self.assertFalse(is_row(row, len(row) + 1, prime))
            self.assertFalse(is_row(row, len(row) - 1, prime))
            for wrong in [(0,), (1, 0), (prime,), (-1, 1), (1,) * 13]:
                self.assertFalse(is_row(row[:-1] + (wrong,), len(row), prime))
                self.assertFalse(is_row((wrong,) + row[1:], len(row), prime))

    def test_reading(self):
        sheet = [(1, 2), (3, 4), (0, 1)]
        # 1 * 3 + 2 * 0 of the first end, 1 * 1 of the second one, at place 1; likewise at place 0.
        row = ((1, 2), (0, 1))
        self.assertEqual(reading(row, sheet, 1, 5), 4)
        self.assertEqual(reading(row, sheet, 0, 5), 1)
        self.assertEqual(reading(nought_row(2), sheet, 2, 5), 0)

    def test_reading_of_a_product_is_read_later(self):
        draw = random.Random("later")
        for prime, row, other, by in drawn_rows("later rows", 100):
            sheet = [tuple(draw.randrange(prime) for end in row) for place in range(20)]
            later = sum(weight * reading(row, sheet, 3 + shift, prime) for shift, weight in enumerate(by))
            self.assertEqual(reading(multiplied(row, by, prime), sheet, 3, prime), later % prime)


if __name__ == "__main__":
    unittest.main()
