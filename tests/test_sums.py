"""Reckoning with lag sums, and what all seven functions refuse."""

import inspect
import unittest

from lagworks.errors import BadPrime, BadSum, BadText
from lagworks.sums import common, minus, plus, read_sum, split, sum_text, times
from tests.helper import (ALL_PRIMES, NO_PRIMES, all_sums, divides, drawn_pairs, is_lag_sum, plain_minus, plain_plus,
                          plain_times, refused)

PAIRED = [plus, minus, times, split, common]
PLAIN = [(plus, plain_plus), (minus, plain_minus), (times, plain_times)]
NOUGHT = ()


class Adding(unittest.TestCase):
    def check(self, action, plain, prime, one, other):
        found = action(one, other, prime=prime)
        self.assertTrue(is_lag_sum(found, prime), (one, other, found))
        self.assertEqual(found, plain(one, other, prime), (action.__name__, prime, one, other))

    def test_drawn(self):
        for prime, one, other in drawn_pairs("adding", 1500):
            for action, plain in PLAIN:
                self.check(action, plain, prime, one, other)

    def test_all_small_ones(self):
        for prime, most in [(2, 4), (3, 3)]:
            sums = all_sums(prime, most)
            for one in sums:
                for other in sums:
                    for action, plain in PLAIN:
                        self.check(action, plain, prime, one, other)

    def test_told_ones(self):
        self.assertEqual(times((0, 1), (0, 1)), (0, 0, 1))
        self.assertEqual(plus((1, 1), (1,)), (0, 1))
        self.assertEqual(plus((1, 2), (2, 2), prime=3), (0, 1))
        self.assertEqual(minus((1,), (0, 1), prime=5), (1, 4))
        self.assertEqual(times((1, 1), (1, 1)), (1, 0, 1))
        self.assertEqual(times((96,), (96,), prime=97), (1,))

    def test_nought(self):
        for prime, one, other in drawn_pairs("nought", 200):
            self.assertEqual(plus(one, NOUGHT, prime=prime), one)
            self.assertEqual(plus(NOUGHT, one, prime=prime), one)
            self.assertEqual(minus(one, NOUGHT, prime=prime), one)
            self.assertEqual(plus(minus(NOUGHT, one, prime=prime), one, prime=prime), NOUGHT)
            self.assertEqual(times(one, NOUGHT, prime=prime), NOUGHT)
            self.assertEqual(times(NOUGHT, one, prime=prime), NOUGHT)
            self.assertEqual(times(one, (1,), prime=prime), one)

    def test_contrary(self):
        for prime, one, other in drawn_pairs("contrary", 300):
            contrary = tuple(-n % prime for n in one)
            self.assertEqual(plus(one, contrary, prime=prime), NOUGHT)
            self.assertEqual(minus(one, one, prime=prime), NOUGHT)
            self.assertEqual(minus(plus(one, other, prime=prime), other, prime=prime), one)
            # Alike in all but the first place: all the rest goes.
            if one:
                other = ((one[0] + 1) % prime,) + one[1:]
                if other[-1] != 0:
                    self.assertEqual(minus(other, one, prime=prime), (1,))

    def test_long_products_are_told_whole(self):
        one = (1,) + (0,) * 10 + (1,)
        self.assertEqual(times(one, one, prime=3), (1,) + (0,) * 10 + (2,) + (0,) * 10 + (1,))

    def test_every_prime(self):
        for prime in ALL_PRIMES:
            one, other = (prime - 1, 1), (1, prime - 1)
            for action, plain in PLAIN:
                self.check(action, plain, prime, one, other)


class Splitting(unittest.TestCase):
    def check(self, prime, one, other):
        told = split(one, other, prime=prime)
        self.assertIs(type(told), tuple)
        quotient, rest = told
        self.assertTrue(is_lag_sum(quotient, prime) and is_lag_sum(rest, prime), (prime, one, other, told))
        self.assertEqual(plain_plus(plain_times(quotient, other, prime), rest, prime), one)
        self.assertLess(len(rest), len(other))

    def test_drawn(self):
        for prime, one, other in drawn_pairs("splitting", 2000):
            if other:
                self.check(prime, one, other)

    def test_all_small_ones(self):
        for prime, most in [(2, 5), (3, 3)]:
            sums = all_sums(prime, most)
            for one in sums:
                for other in sums[1:]:
                    self.check(prime, one, other)

    def test_second_longer(self):
        for prime, one, other in drawn_pairs("longer", 500):
            if len(one) < len(other):
                self.assertEqual(split(one, other, prime=prime), ((), one))

    def test_without_rest(self):
        for prime, one, other in drawn_pairs("multiples", 500, most=6):
            if other:
                self.assertEqual(split(plain_times(one, other, prime), other, prime=prime), (one, ()))

    def test_by_a_number(self):
        self.assertEqual(split((1, 2), (2,), prime=5), ((3, 1), ()))

    def test_by_nought(self):
        for prime, one, other in drawn_pairs("by nought", 50):
            refused(self, BadSum, split, one, NOUGHT, prime=prime)
        refused(self, BadSum, split, NOUGHT, NOUGHT)


class Dividing(unittest.TestCase):
    def check(self, prime, one, other):
        told = common(one, other, prime=prime)
        self.assertIs(type(told), tuple)
        found, by_one, by_other = told
        for part in told:
            self.assertTrue(is_lag_sum(part, prime), (prime, one, other, told))
        comes = plain_plus(plain_times(one, by_one, prime), plain_times(other, by_other, prime), prime)
        self.assertEqual(comes, found, (prime, one, other, told))
        if not one and not other:
            self.assertEqual(found, NOUGHT)
            return found
        self.assertEqual(found[-1], 1)
        self.assertTrue(divides(found, one, prime) and divides(found, other, prime), (prime, one, other, told))
        return found

    def test_drawn(self):
        for prime, one, other in drawn_pairs("dividing", 1000):
            found = self.check(prime, one, other)
            self.assertEqual(self.check(prime, other, one), found)

    def test_with_a_common_part(self):
        for prime, one, other in drawn_pairs("common part", 500, most=6):
            for part in [(1, 1), (prime - 1, 0, 1), (0, 1), (1, 1, 0, 1)]:
                first, second = plain_times(one, part, prime), plain_times(other, part, prime)
                found = self.check(prime, first, second)
                self.assertEqual(self.check(prime, second, first), found)
                if found:
                    self.assertTrue(divides(part, found, prime))

    def test_divided_by_every_common_one(self):
        for prime, most in [(2, 5), (3, 3)]:
            sums = all_sums(prime, most)
            by_what = {one: [k for k in sums[1:] if divides(k, one, prime)] for one in sums}
            for one in sums:
                for other in sums:
                    found = self.check(prime, one, other)
                    if found:
                        both = [k for k in by_what[one] if k in by_what[other]]
                        self.assertEqual([k for k in both if not divides(k, found, prime)], [])

    def test_noughts(self):
        self.assertEqual(common(NOUGHT, NOUGHT, prime=5)[0], NOUGHT)
        self.assertEqual(common(NOUGHT, NOUGHT)[0], NOUGHT)
        for prime, one, other in drawn_pairs("one nought", 200):
            if one:
                unit = next(k for k in range(prime) if k * one[-1] % prime == 1)
                level = tuple(n * unit % prime for n in one)
                self.assertEqual(self.check(prime, one, NOUGHT), level)
                self.assertEqual(self.check(prime, NOUGHT, one), level)

    def test_alike(self):
        self.assertEqual(self.check(5, (2, 4), (2, 4)), (3, 1))
        self.assertEqual(self.check(5, (2,), (3,)), (1,))


class Refusals(unittest.TestCase):
    def wrong_sums(self, prime):
        return [(prime,), (prime + 1, 1), (1, prime, 1), (1, 2 * prime), (-1,), (1, -1, 1), (1 - prime,),
                (99999999999999999999,), (-99999999999999999999, 1), (1, 99999999999999999999),
                (0,), (1, 0), (0, 0, 0), (1, 1, 0), (0,) * 12, (1,) * 11 + (0,),
                (1,) * 13, (0,) * 12 + (1,), (0,) * 13, (1,) * 60]

    def test_bad_sums(self):
        for prime in [2, 3, 5, 97]:
            for wrong in self.wrong_sums(prime):
                for right in [(), (1,), (1, 0, 1), (1,) * 12]:
                    for action in PAIRED:
                        refused(self, BadSum, action, wrong, right, prime=prime)
                        refused(self, BadSum, action, right, wrong, prime=prime)
                for action in PAIRED:
                    refused(self, BadSum, action, wrong, wrong, prime=prime)
                refused(self, BadSum, sum_text, wrong, prime=prime)

    def test_residues_by_every_prime(self):
        for prime in ALL_PRIMES:
            for action in PAIRED:
                action((prime - 1,), (prime - 1, 1), prime=prime)
                refused(self, BadSum, action, (prime,), (1,), prime=prime)
                refused(self, BadSum, action, (1,), (prime,), prime=prime)
            self.assertEqual(sum_text((prime - 1,), prime=prime), str(prime - 1))
            refused(self, BadSum, sum_text, (prime,), prime=prime)
            self.assertEqual(read_sum(str(prime - 1), prime=prime), (prime - 1,))
            refused(self, BadText, read_sum, str(prime), prime=prime)

    def test_twelve_residues_are_taken(self):
        for action in PAIRED:
            action((1,) * 12, (0,) * 11 + (1,))
        self.assertEqual(read_sum(sum_text((1,) * 12)), (1,) * 12)

    def test_bad_prime_goes_first(self):
        for prime in NO_PRIMES:
            for one, other in [((), ()), ((1,), (1,)), ((0,), (1,)), ((1,), (-1,)), ((1,) * 13, (5, 0)), ((1,), ())]:
                for action in PAIRED:
                    refused(self, BadPrime, action, one, other, prime=prime)
                refused(self, BadPrime, sum_text, one, prime=prime)
            for text in ["0", "1", "1 + z", "", "no sum", "z^12", "01"]:
                refused(self, BadPrime, read_sum, text, prime=prime)

    def test_prime_left_out(self):
        for prime, one, other in drawn_pairs("left out", 200):
            if prime == 2:
                for action in [plus, minus, times, common] + [split] * bool(other):
                    self.assertEqual(action(one, other), action(one, other, prime=2))
                self.assertEqual(sum_text(one), sum_text(one, prime=2))
                self.assertEqual(read_sum(sum_text(one)), one)
        for action in PAIRED:
            refused(self, BadSum, action, (2,), (1,))
            refused(self, BadSum, action, (1,), (2,))
        refused(self, BadSum, sum_text, (2,))
        refused(self, BadText, read_sum, "2")

    def test_refused_changes_nothing(self):
        one, other = (1, 2), (2, 1)
        before = [action(one, other, prime=3) for action in PAIRED]
        for action in PAIRED:
            refused(self, BadSum, action, one, (1, 0), prime=3)
            refused(self, BadPrime, action, one, other, prime=4)
        self.assertEqual([action(one, other, prime=3) for action in PAIRED], before)
        self.assertEqual((one, other), ((1, 2), (2, 1)))


class HandingIn(unittest.TestCase):
    def test_names_in_any_order(self):
        for prime, one, other in drawn_pairs("by names", 200):
            for action in [plus, minus, times, common] + [split] * bool(other):
                told = action(one, other, prime=prime)
                self.assertEqual(action(other=other, one=one, prime=prime), told)
                self.assertEqual(action(prime=prime, other=other, one=one), told)
                self.assertEqual(action(one, prime=prime, other=other), told)
            self.assertEqual(sum_text(prime=prime, one=one), sum_text(one, prime=prime))
            self.assertEqual(read_sum(prime=prime, text=sum_text(one, prime=prime)), one)

    def test_prime_by_its_name_alone(self):
        for action in PAIRED:
            with self.assertRaises(TypeError):
                action((1,), (1,), 2)
        with self.assertRaises(TypeError):
            sum_text((1,), 2)
        with self.assertRaises(TypeError):
            read_sum("1", 2)

    def test_signatures(self):
        told = [(action, ["one", "other", "prime"]) for action in PAIRED]
        for action, names in told + [(sum_text, ["one", "prime"]), (read_sum, ["text", "prime"])]:
            parameters = inspect.signature(action).parameters
            self.assertEqual(list(parameters), names)
            self.assertEqual(parameters["prime"].kind, inspect.Parameter.KEYWORD_ONLY)
            self.assertEqual(parameters["prime"].default, 2)
            for name in names[:-1]:
                self.assertEqual(parameters[name].kind, inspect.Parameter.POSITIONAL_OR_KEYWORD)
                self.assertIs(parameters[name].default, inspect.Parameter.empty)

    def test_asked_again(self):
        for prime, one, other in drawn_pairs("again", 200):
            for action in [plus, minus, times, common] + [split] * bool(other):
                handed = tuple(list(one)), tuple(list(other))
                self.assertEqual(action(one, other, prime=prime), action(*handed, prime=prime))
                self.assertEqual((one, other), handed)


if __name__ == "__main__":
    unittest.main()
