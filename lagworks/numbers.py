"""Primes and residues, with which all is reckoned."""

from lagworks.errors import BadNumber, BadPrime

PRIMES = (2, 3, 5, 7, 11, 13, 17, 19, 23, 29, 31, 37, 41, 43, 47, 53, 59, 61, 67, 71, 73, 79, 83, 89, 97)
LEAST = 2


def is_prime(number):
    """Whether number is one of the twenty-five primes from 2 to 97."""
    return number in PRIMES


def check_prime(prime):
    """Refuse a prime that is none."""
    if not is_prime(prime):
        raise BadPrime("a prime is one of the twenty-five from 2 to 97")


def inverse_of(number, prime):
    """The inverse of a residue that is not 0; nothing is looked at."""
    found = 1
    # By a prime, number ** (prime - 1) is 1: one factor less is the inverse.
    for turn in range(prime - 2):
        found = found * number % prime
    return found


def inverse(number, *, prime=LEAST):
    """The residue that times number is 1."""
    check_prime(prime)
    if not 1 <= number < prime:
        raise BadNumber("only numbers from 1 to below the prime have an inverse")
    return inverse_of(number, prime)
