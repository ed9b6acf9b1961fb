"""Ends that lead: bound, loose, led."""

import copy
import itertools
import random
import time
import unittest

from lagworks.books import Book, book_of
from lagworks.choices import led, leads
from lagworks.errors import BadEnds
from tests.helper import (drawn_books, drawn_row, echelon, greatest, head_and_height, refused, spans, then, turned,
                          width_of)

BIG = 99999999999999999999


def rising(width):
    """All rising lists of ends."""
    return sorted([list(some) for many in range(width + 1) for some in itertools.combinations(range(width), many)])


def degree(one):
    return len(one) - 1


def shifted(rows, width, top):
    """All the rows put off by so many places that their heights are at most top, laid flat."""
    found = []
    for row in rows:
        for later in range(top - head_and_height(row)[1] + 1):
            flat = [0] * (width * (top + 1))
            for end, one in enumerate(row):
                for place, n in enumerate(one):
                    flat[(later + place) * width + end] = n
            found.append(flat)
    return found


def follows_from(rows, row, width, prime):
    """Whether an equation follows from a told table: no more height than its own is needed."""
    top = max(degree(one) for one in row)
    basis = echelon(shifted([other for other in rows if head_and_height(other)[1] <= top], width, top), prime)
    return spans(basis, shifted([row], width, top)[0], prime)


class Shown(unittest.TestCase):
    def check_bound(self, book, chosen, equation):
        self.assertIs(type(equation), tuple)
        top = max(degree(one) for one in equation)
        self.assertGreaterEqual(top, 0)
        self.assertTrue(all(end in chosen for end, one in enumerate(equation) if degree(one) == top))
        self.assertTrue(follows_from(book.equations(), equation, width_of(book), book.prime()))

    def check_loose(self, book, chosen, sheet):
        self.assertIs(type(sheet), list)
        self.assertGreater(len(sheet), greatest(book))
        self.assertTrue(all(not any(sign) for sign in sheet[:-1]))
        self.assertTrue(any(sheet[-1]))
        self.assertTrue(all(sheet[-1][end] == 0 for end in chosen))
        self.assertIs(book.lets(sheet), True)
        # Without bound ones: chosen ends are fewer than those that lead.
        self.assertLess(len(chosen), book.free())

    def check_led(self, book, chosen, equations):
        self.assertIs(type(equations), list)
        others = [end for end in range(width_of(book)) if end not in chosen]
        self.assertEqual(len(equations), len(others))
        own = dict(zip(others, equations))
        for end, row in own.items():
            self.assertIs(type(row), tuple)
            self.assertEqual(row[end][-1], 1)
            self.assertEqual(degree(row[end]), max(degree(one) for one in row))
            self.assertTrue(all(degree(row[other]) < degree(own[other][other]) for other in others if other != end))
            self.assertTrue(follows_from(book.equations(), row, width_of(book), book.prime()))
        # All the book's equations follow from them: their told form is the book's.
        left, right = book.ends()
        if all(len(one) <= 12 for row in equations for one in row) and len(equations) <= 12:
            self.assertEqual(Book(equations, left=left, right=right, prime=book.prime()), book)
        self.assertEqual(len(chosen), book.free())

    def check(self, book, chosen):
        """What is told, walked through; its word."""
        found = led(book, chosen)
        self.assertIs(type(found), tuple)
        word, shown = found
        {"bound": self.check_bound, "loose": self.check_loose, "led": self.check_led}[word](book, chosen, shown)
        self.assertEqual(led(book, tuple(chosen)), found)
        return word

    def test_all_choices(self):
        seen = {"bound": 0, "loose": 0, "led": 0}
        for draw, book in drawn_books("choices", 350):
            for chosen in rising(width_of(book)):
                seen[self.check(book, chosen)] += 1
        self.assertGreater(min(seen.values()), 300)

    def test_just_one_is_so(self):
        """Where the greatest degrees of the told rows are independent at the others, nothing is bound."""
        for draw, book in drawn_books("just one", 200):
            rows, width = book.equations(), width_of(book)
            for chosen in rising(width):
                others = [end for end in range(width) if end not in chosen]
                tops = [[row[end][-1] if degree(row[end]) == head_and_height(row)[1] else 0 for end in others]
                        for row in rows]
                rank = len(echelon(tops, book.prime()))
                word = "bound" if rank < len(rows) else "loose" if len(rows) < len(others) else "led"
                self.assertEqual(led(book, chosen)[0], word)

    def test_none_and_all(self):
        for draw, book in drawn_books("none and all", 150):
            width = width_of(book)
            self.assertEqual(self.check(book, []), "led" if book.free() == 0 else "loose")
            self.assertEqual(self.check(book, list(range(width))), "bound" if len(book) else "led")
        self.assertEqual(led(Book(left=0, right=0), []), ("led", []))
        self.assertEqual(led(Book(), [0]), ("led", []))
        self.assertEqual(led(Book(), []), ("loose", [(1,)]))
        self.assertEqual(led(Book([((1,),)]), [0]), ("bound", ((1,),)))
        self.assertEqual(led(Book([((1,),)]), []), ("led", [((1,),)]))

    def test_bound_ahead_of_loose(self):
        # The first end is nought, the second one whatever it is: bound, though the other is loose.
        book = Book([((1,), ())], left=1)
        self.assertEqual(led(book, [0])[0], "bound")
        self.assertEqual(led(book, [1])[0], "led")
        self.assertEqual(led(book, [])[0], "loose")
        self.assertEqual(led(book, [0, 1])[0], "bound")

    def test_by_hand(self):
        lag = book_of(("lag",), prime=5)
        self.assertEqual(led(lag, [0]), ("led", [((4,), (0, 1))]))
        # What stands on the right was known one place ahead.
        self.assertEqual(led(lag, [1])[0], "bound")
        self.assertEqual(led(lag, [])[0], "loose")
        sheet = led(lag, [])[1]
        self.assertTrue(len(sheet) >= 2 and lag.lets(sheet))
        loose = book_of(then(turned(("lag",)), ("lag",)), prime=5)
        self.assertEqual(led(loose, [0]), ("led", [((0, 4), (0, 1))]))
        self.assertEqual(led(loose, [1]), ("led", [((0, 1), (0, 4))]))
        self.assertEqual(leads(loose), [[0], [1]])
        self.assertEqual(leads(lag), [[0]])
        self.assertEqual(leads(book_of(("sum", 2))), [[0, 1], [0, 2], [1, 2]])
        self.assertEqual(leads(book_of(("copy", 2))), [[0], [1], [2]])

    def test_spoilt_and_asked_again(self):
        for draw, book in drawn_books("spoilt choices", 100):
            for chosen in rising(width_of(book)):
                kept = list(chosen)
                found = copy.deepcopy(led(book, chosen))
                self.assertEqual(chosen, kept)
                told = led(book, chosen)
                if isinstance(told[1], list):
                    told[1].clear()
                self.assertEqual(led(book, chosen), found)


class Leads(unittest.TestCase):
    def test_all_rising_lists(self):
        for draw, book in drawn_books("leads", 150):
            found = leads(book)
            self.assertEqual(found, [chosen for chosen in rising(width_of(book)) if led(book, chosen)[0] == "led"])
            self.assertEqual(found, sorted(found))
            self.assertTrue(found)
            self.assertTrue(all(len(chosen) == book.free() for chosen in found))
            found[0].append(99)
            found.clear()
            self.assertEqual(leads(book), [chosen for chosen in rising(width_of(book)) if led(book, chosen)[0] == "led"])

    def test_eight_ends(self):
        draw, begun = random.Random("eight ends"), time.monotonic()
        for prime in (2, 97):
            for many in (0, 1, 4, 7, 8):
                rows = [drawn_row(draw, prime, 8, 12) for k in range(many)]
                book = Book(rows, left=4, right=4, prime=prime)
                found = leads(book)
                told = [list(some) for some in itertools.combinations(range(8), book.free())]
                self.assertEqual(found, [chosen for chosen in told if led(book, chosen)[0] == "led"])
        self.assertEqual(len(leads(Book(left=8, right=0))), 1)
        self.assertLess(time.monotonic() - begun, 20)

    def test_many_ends_chosen(self):
        draw = random.Random("many ends")
        rows = [drawn_row(draw, 97, 24, 3) for k in range(12)]
        book = Book(rows, left=12, right=12, prime=97)
        shown = Shown()
        for chosen in ([], list(range(12)), list(range(12, 24)), list(range(0, 24, 2)), list(range(24)), [23]):
            shown.check(book, chosen)


class Refusals(unittest.TestCase):
    def test_ends(self):
        book = Book([((1,), (1, 1), (1,))], left=1, right=2, prime=3)
        for wrong in [[3], [-1], [0, 0], [1, 0], [0, 1, 3], [0, 2, 1], [2, 1, 0], [BIG], [-BIG], [0, BIG], [0, 1, 1, 2],
                      [-1, 0], [-3, -2, -1], list(range(4)), [0] * 60, [0, 1, 2, 2]]:
            refused(self, BadEnds, led, book, wrong)
            refused(self, BadEnds, led, book, tuple(wrong))
        refused(self, BadEnds, led, Book(left=0, right=0), [0])
        self.assertEqual(led(book=book, chosen=[0, 1])[0], "bound")


if __name__ == "__main__":
    unittest.main()
