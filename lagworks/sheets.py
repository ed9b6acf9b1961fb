"""Sheets: lists of signs, each a tuple of residues, one for each end."""

from lagworks.errors import BadSheet
from lagworks.rows import height, reading


def is_sign(sign, many, prime):
    """Whether a tuple of numbers is so many residues."""
    return len(sign) == many and all([0 <= number < prime for number in sign])


def check_sheet(sheet, many, prime):
    """Refuse a sheet that is none; at is the place of its first bad sign."""
    for at, sign in enumerate(sheet):
        if not is_sign(sign, many, prime):
            raise BadSheet("a sign is a tuple of residues, one for each end", at)


def is_kept(row, sheet, prime):
    """Whether an equation is kept at all places at which the sheet is long enough for it."""
    return all([reading(row, sheet, place, prime) == 0 for place in range(len(sheet) - height(row))])


def run_out(rules, wished, prime):
    """The let sheet that has the wished numbers wherever they are free; elsewhere they are 0.

    The rules are equations in told form, but for the order of the ends, by their heads: at the places from its height
    on the number at a head is what the numbers ahead of it, or at that place at heads ahead of it, make it.
    """
    found = [list(sign) for sign in wished]
    for place in range(len(found)):
        for end in rules:
            start = place - height(rules[end])
            if start >= 0:
                found[place][end] = -reading(rules[end], found, start, prime) % prime
    return [tuple(sign) for sign in found]
