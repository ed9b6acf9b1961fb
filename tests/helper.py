"""What several test files need: drawn lag sums, plain reckoning to compare with, and refusals."""

import random

from lagworks.errors import LagError, WorksError

ALL_PRIMES = [n for n in range(2, 98) if all(n % k for k in range(2, n))]

# 0, 1, 4, 97 + 4 and the like, below nought, of twenty figures (some of them primes elsewhere).
NO_PRIMES = [0, 1, 4, 6, 9, 91, 95, 96, 98, 99, 100, 97 + 4, 103, -1, -2, -3, -97,
             99999999999999999999, -99999999999999999999, 10 ** 19, -(10 ** 19),
             18446744073709551557, 10000000000000000051]


def cut(numbers, prime):
    """Numbers by places as a lag sum."""
    found = [n % prime for n in numbers]
    while found and found[-1] == 0:
        found.pop()
    return tuple(found)


def plain_plus(one, other, prime):
    long = max(len(one), len(other))
    return cut([(one + (0,) * long)[k] + (other + (0,) * long)[k] for k in range(long)], prime)


def plain_minus(one, other, prime):
    return plain_plus(one, tuple(-n for n in other), prime)


def plain_times(one, other, prime):
    return cut([sum(one[i] * other[k - i] for i in range(len(one)) if 0 <= k - i < len(other))
                for k in range(len(one) + len(other))], prime)


def is_lag_sum(found, prime):
    """Whether what is told is a tuple of residues without a last 0."""
    return (type(found) is tuple and all(type(n) is int and 0 <= n < prime for n in found)
            and (not found or found[-1] != 0))


def divides(one, other, prime):
    """Whether other, by plain long division, is a multiple of one (not nought)."""
    unit = next(k for k in range(prime) if k * one[-1] % prime == 1)
    while len(other) >= len(one):
        top = (0,) * (len(other) - len(one)) + (other[-1] * unit % prime,)
        other = plain_minus(other, plain_times(top, one, prime), prime)
    return other == ()


def drawn_sum(draw, prime, most=12):
    """A lag sum of at most so many residues; nought, full length and gaps are not rare."""
    long = draw.choice([0, 1, 2, most, draw.randint(0, most)])
    gaps = draw.random() < 0.3
    return cut([0 if gaps and draw.random() < 0.6 else draw.randrange(prime) for k in range(long)], prime)


def drawn_pairs(seed, many, most=12):
    """(prime, one, other), drawn the same each time."""
    draw = random.Random(seed)
    for k in range(many):
        prime = draw.choice([2, 3, 5, 7, 97, draw.choice(ALL_PRIMES)])
        yield prime, drawn_sum(draw, prime, most), drawn_sum(draw, prime, most)


def all_sums(prime, most):
    """All lag sums of at most so many residues."""
    found = [()]
    rising = [()]
    for k in range(most):
        rising = [one + (n,) for one in rising for n in range(prime)]
        found.extend(one for one in rising if one[-1] != 0)
    return found


def refused(test, kind, action, *handed, **named):
    """Asserts that just this error comes, with its word, and tells it."""
    with test.assertRaises((LagError, WorksError)) as caught:
        action(*handed, **named)
    test.assertIs(type(caught.exception), kind, (handed, named))
    test.assertEqual(caught.exception.word, kind.__name__)
    return caught.exception
