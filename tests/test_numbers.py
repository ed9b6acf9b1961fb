"""Primes and inverses."""

import inspect
import unittest

from lagworks import numbers
from lagworks.errors import BadNumber, BadPrime
from lagworks.numbers import LEAST, PRIMES, inverse, is_prime
from tests.helper import ALL_PRIMES, NO_PRIMES, refused

FIRST_PRIMES = (2, 3, 5, 7, 11, 13, 17, 19, 23, 29, 31, 37, 41, 43, 47, 53, 59, 61, 67, 71, 73, 79, 83, 89, 97)


class Primes(unittest.TestCase):
    def test_from_minus_5_to_104(self):
        for number in range(-5, 105):
            self.assertIs(is_prime(number), number in FIRST_PRIMES, number)

    def test_helper_agrees(self):
        self.assertEqual(tuple(ALL_PRIMES), FIRST_PRIMES)

    def test_greater_ones(self):
        for number in [*range(105, 2000), 7919, 65537]:
            self.assertIs(is_prime(number), False, number)
            self.assertIs(is_prime(-number), False, number)

    def test_twenty_figures(self):
        for number in NO_PRIMES:
            self.assertIs(is_prime(number), False, number)

    def test_by_name(self):
        self.assertIs(is_prime(number=97), True)
        self.assertIs(is_prime(number=96), False)

    def test_tables(self):
        self.assertIs(type(PRIMES), tuple)
        self.assertEqual(PRIMES, FIRST_PRIMES)
        self.assertEqual(LEAST, 2)
        self.assertIs(type(LEAST), int)
        self.assertEqual((numbers.PRIMES, numbers.LEAST), (FIRST_PRIMES, 2))


class Inverses(unittest.TestCase):
    def test_every_residue(self):
        for prime in FIRST_PRIMES:
            for number in range(1, prime):
                found = inverse(number, prime=prime)
                self.assertIs(type(found), int)
                self.assertIn(found, range(1, prime))
                self.assertEqual(number * found % prime, 1)

    def test_bad_number(self):
        for prime in FIRST_PRIMES:
            for number in [0, prime, prime + 1, 2 * prime, 2 * prime + 1, -1, -prime, 1 - prime, -prime - 1,
                           99999999999999999999, -99999999999999999999]:
                refused(self, BadNumber, inverse, number, prime=prime)

    def test_bad_prime_goes_first(self):
        for prime in NO_PRIMES:
            for number in [1, 0, -1, prime, 99999999999999999999]:
                refused(self, BadPrime, inverse, number, prime=prime)

    def test_prime_left_out(self):
        self.assertEqual(inverse(1), 1)
        for number in [0, 2, 3, -1]:
            refused(self, BadNumber, inverse, number)

    def test_handing_in(self):
        self.assertEqual(inverse(prime=7, number=3), 5)
        self.assertEqual(inverse(number=1), 1)
        with self.assertRaises(TypeError):
            inverse(3, 7)
        told = inspect.signature(inverse).parameters
        self.assertEqual(list(told), ["number", "prime"])
        self.assertEqual(told["prime"].kind, inspect.Parameter.KEYWORD_ONLY)
        self.assertEqual(told["prime"].default, 2)
        self.assertEqual(list(inspect.signature(is_prime).parameters), ["number"])

    def test_refused_then_asked_again(self):
        before = [inverse(number, prime=97) for number in range(1, 97)]
        refused(self, BadNumber, inverse, 0, prime=97)
        refused(self, BadPrime, inverse, 5, prime=96)
        self.assertEqual([inverse(number, prime=97) for number in range(1, 97)], before)


if __name__ == "__main__":
    unittest.main()
