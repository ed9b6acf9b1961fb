"""Lag sums: tuples of residues, the last one not 0.

The functions of the interface look at what they are handed; those that take
the prime by place look at nothing, and take sums of any degree.
"""

from lagworks.errors import BadSum, BadText
from lagworks.numbers import LEAST, check_prime, inverse_of

MOST = 12
FIGURES = "0123456789"


def trimmed(residues):
    """The lag sum with these residues: noughts at the end are left out."""
    end = len(residues)
    while end > 0 and residues[end - 1] == 0:
        end -= 1
    return tuple(residues[:end])


def added(one, other, prime):
    """The sum of two lag sums."""
    longer, shorter = (one, other) if len(one) >= len(other) else (other, one)
    found = list(longer)
    for place, residue in enumerate(shorter):
        found[place] = (found[place] + residue) % prime
    return trimmed(found)


def weighed(one, weight, prime):
    """A lag sum times a number."""
    return trimmed([residue * weight % prime for residue in one])


def less(one, other, prime):
    """One lag sum less another one."""
    return added(one, weighed(other, -1, prime), prime)


def product(one, other, prime):
    """Two lag sums multiplied like sums of powers."""
    found = [0] * (len(one) + len(other))
    for place, residue in enumerate(one):
        for later, weight in enumerate(other):
            found[place + later] += residue * weight
    return trimmed([number % prime for number in found])


def less_times(one, other, by, prime):
    """One lag sum less the product of two others, made in one go: most of the reckoning is done here."""
    if not other or not by:
        return one
    found = list(one) + [0] * (len(other) + len(by) - 1 - len(one))
    for place, weight in enumerate(by):
        if weight != 0:
            for later, residue in enumerate(other):
                found[place + later] -= weight * residue
    return trimmed([number % prime for number in found])


def divided(one, other, prime):
    """(quotient, rest) of one by other, which is not nought."""
    top = len(other) - 1
    steps = max(len(one) - top, 0)
    unit = inverse_of(other[top], prime)
    quotient = [0] * steps
    rest = list(one)
    for shift in reversed(range(steps)):
        weight = rest[shift + top] * unit % prime
        quotient[shift] = weight
        for place, residue in enumerate(other):
            rest[shift + place] = (rest[shift + place] - weight * residue) % prime
    return trimmed(quotient), trimmed(rest)


def shared(one, other, prime):
    """(found, by_one, by_other): found is the greatest common divisor, level, and how it comes of the two."""
    found, by_one, by_other = one, (1,), ()
    rest, rest_one, rest_other = other, (), (1,)
    # Each of found and rest stays one times its first factor plus other times its second.
    while rest:
        quotient, lower = divided(found, rest, prime)
        lower_one = less(by_one, product(quotient, rest_one, prime), prime)
        lower_other = less(by_other, product(quotient, rest_other, prime), prime)
        found, by_one, by_other = rest, rest_one, rest_other
        rest, rest_one, rest_other = lower, lower_one, lower_other
    if not found:
        return (), (), ()
    unit = inverse_of(found[-1], prime)
    return weighed(found, unit, prime), weighed(by_one, unit, prime), weighed(by_other, unit, prime)


def is_sum(one, prime):
    """Whether a tuple of numbers is a lag sum that may be handed in."""
    if len(one) > MOST or (one and one[-1] == 0):
        return False
    return all([0 <= residue < prime for residue in one])


def check_sum(one, prime):
    """Refuse a lag sum that is none or too long."""
    if not is_sum(one, prime):
        raise BadSum("a lag sum has at most 12 residues of the prime, the last one not 0")


def check_two(one, other, prime):
    """Refuse a wrong prime, then wrong lag sums."""
    check_prime(prime)
    check_sum(one, prime)
    check_sum(other, prime)


def plus(one, other, *, prime=LEAST):
    """The sum of two lag sums."""
    check_two(one, other, prime)
    return added(one, other, prime)


def minus(one, other, *, prime=LEAST):
    """One lag sum less the other one."""
    check_two(one, other, prime)
    return less(one, other, prime)


def times(one, other, *, prime=LEAST):
    """The product of two lag sums."""
    check_two(one, other, prime)
    return product(one, other, prime)


def split(one, other, *, prime=LEAST):
    """(quotient, rest): one is quotient times other plus rest, which is of a lesser degree than other or ()."""
    check_two(one, other, prime)
    if not other:
        raise BadSum("nothing can be divided by nought")
    return divided(one, other, prime)


def common(one, other, *, prime=LEAST):
    """(found, by_one, by_other): the greatest level sum that divides both, and how it comes of the two."""
    check_two(one, other, prime)
    return shared(one, other, prime)


def term_text(residue, place):
    """The text of one residue that is not 0 at its place."""
    if place == 0:
        return str(residue)
    front = "" if residue == 1 else str(residue)
    return f"{front}z" if place == 1 else f"{front}z^{place}"


def text_of(one):
    """The text of a lag sum."""
    if not one:
        return "0"
    return " + ".join([term_text(residue, place) for place, residue in enumerate(one) if residue != 0])


def sum_text(one, *, prime=LEAST):
    """The text of a lag sum."""
    check_prime(prime)
    check_sum(one, prime)
    return text_of(one)


def read_number(text):
    """The number that one or two figures are: no residue and no place has more."""
    if len(text) not in (1, 2) or not all([sign in FIGURES for sign in text]):
        raise BadText("a number of one or two figures is missing")
    return int(text)


def read_term(text):
    """(residue, place) of one term, read more loosely than it may be written."""
    front, mark, back = text.partition("z")
    if not mark:
        return read_number(front), 0
    residue = read_number(front) if front else 1
    place = read_number(back[1:]) if back else 1
    return residue, place


def read_sum(text, *, prime=LEAST):
    """The lag sum that is written so."""
    check_prime(prime)
    residues = [0] * MOST
    for term in text.split(" + "):
        residue, place = read_term(term)
        if residue >= prime or place >= MOST:
            raise BadText("a residue is not below the prime, or a place is beyond 11")
        residues[place] = residue
    found = trimmed(residues)
    # Each sum has one text alone, so whatever was read too loosely does not come back the same.
    if text_of(found) != text:
        raise BadText("the lag sum is not written so")
    return found
