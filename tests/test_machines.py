"""Machines: what they tell of themselves, step, run, and where a sheet starts."""

import inspect
import random
import unittest

from lagworks.books import Book, book_of
from lagworks.choices import led, leads
from lagworks.errors import BadEnds, BadSheet, BadStart, NotLed
from lagworks.machines import Machine, machine
from tests.helper import (all_signs, drawn_books, drawn_even_row, drawn_sign, echelon, greatest, refused, then, turned,
                          width_of)

BIG = 99999999999999999999


def drawn_machines(seed, many, **limits):
    """(draw, book, chosen, machine)."""
    for draw, book in drawn_books(seed, many, **limits):
        chosen = draw.choice(leads(book))
        yield draw, book, chosen, machine(book, chosen)


def drawn_inputs(draw, one, places):
    """(contents, inputs) for a machine."""
    prime = one.book().prime()
    return drawn_sign(draw, one.lags(), prime), [drawn_sign(draw, len(one.chosen()), prime) for t in range(places)]


def plus(one, other, prime):
    return tuple((a + b) % prime for a, b in zip(one, other, strict=True))


def times(one, k, prime):
    return tuple(a * k % prime for a in one)


class Told(unittest.TestCase):
    def test_of_itself(self):
        for draw, book, chosen, one in drawn_machines("of itself", 200):
            self.assertIsInstance(one, Machine)
            self.assertIs(type(one.chosen()), list)
            self.assertEqual(one.chosen(), chosen)
            self.assertEqual(one.book(), book)
            self.assertEqual((one.lags(), len(one)), (book.lags(), book.lags()))
            self.assertEqual(repr(one), f"Machine({book.lags()} lags, {len(chosen)} chosen)")
            one.chosen().append(99)
            self.assertEqual(one.chosen(), chosen)

    def test_chosen_changed_behind(self):
        book, chosen = book_of(("sum", 3), prime=5), [0, 1, 3]
        one = machine(book, chosen)
        chosen[:] = [0, 1, 2]
        self.assertEqual(one.chosen(), [0, 1, 3])
        self.assertEqual(one.step((), (1, 2, 3))[0], (1, 2, 0, 3))
        self.assertEqual(machine(book, (0, 1, 3)).chosen(), [0, 1, 3])
        self.assertEqual(str(inspect.signature(machine)), "(book, chosen)")

    def test_no_lags_and_no_ends(self):
        one = machine(book_of(("copy", 2), prime=3), [1])
        self.assertEqual((one.lags(), len(one), repr(one)), (0, 0, "Machine(0 lags, 1 chosen)"))
        self.assertEqual(one.step((), (2,)), ((2, 2, 2), ()))
        none = machine(Book(left=0, right=0), [])
        self.assertEqual((none.step((), ()), none.run((), [(), ()]), none.start_of([(), ()])), (((), ()), [(), ()], ()))
        self.assertEqual(machine(Book(), [0]).run((), [(1,), (0,)]), [(1,), (0,)])
        self.assertEqual(machine(Book([((1,),)]), []).run((), [(), ()]), [(0,), (0,)])

    def test_lag_by_hand(self):
        one = machine(book_of(("lag",), prime=5), [0])
        self.assertEqual(one.run(one.start_of([(1, 3)]), [(1,), (2,), (4,)]), [(1, 3), (2, 1), (4, 2)])


class Runs(unittest.TestCase):
    def test_run_is_step_after_step(self):
        for draw, book, chosen, one in drawn_machines("steps", 200):
            contents, inputs = drawn_inputs(draw, one, 8)
            found = one.run(contents, inputs)
            self.assertIs(type(found), list)
            self.assertEqual(one.run(contents, tuple(inputs)), found)
            for numbers, sign in zip(inputs, found, strict=True):
                told = one.step(contents, numbers)
                self.assertIs(type(told), tuple)
                again, contents = told
                self.assertEqual(again, sign)
                self.assertTrue(type(contents) is tuple and len(contents) == one.lags())
                self.assertTrue(all(0 <= n < book.prime() for n in contents + sign))
            self.assertEqual(one.run(contents, []), [])

    def test_signs_are_let_and_bear_the_chosen(self):
        for draw, book, chosen, one in drawn_machines("let", 200):
            contents, inputs = drawn_inputs(draw, one, 9)
            found = one.run(contents, inputs)
            self.assertEqual([tuple(sign[end] for end in chosen) for sign in found], inputs)
            self.assertIs(book.lets(found), True)

    def test_noughts_and_sums(self):
        for draw, book, chosen, one in drawn_machines("sums", 200):
            prime, many = book.prime(), len(chosen)
            noughts = one.run((0,) * one.lags(), [(0,) * many] * 6)
            self.assertEqual(noughts, [(0,) * width_of(book)] * 6)
            (x, xs), (y, ys), k = drawn_inputs(draw, one, 6), drawn_inputs(draw, one, 6), draw.randrange(prime)
            both = one.run(plus(x, y, prime), [plus(a, b, prime) for a, b in zip(xs, ys)])
            self.assertEqual(both, [plus(a, b, prime) for a, b in zip(one.run(x, xs), one.run(y, ys))])
            weighed = one.run(times(x, k, prime), [times(a, k, prime) for a in xs])
            self.assertEqual(weighed, [times(a, k, prime) for a in one.run(x, xs)])
            if many:
                later = plus(one.step(x, xs[0])[1], one.step(y, ys[0])[1], prime)
                self.assertEqual(one.step(plus(x, y, prime), plus(xs[0], ys[0], prime))[1], later)

    def test_just_the_let_ones(self):
        """At small books all contents and inputs tell all let sheets, each once."""
        checked = 0
        for draw, book, chosen, one in drawn_machines("just these", 80, ends=3, most=3, primes=(2, 2, 3)):
            prime, places = book.prime(), greatest(book) + 1
            if one.lags() + len(chosen) * places > (9 if prime == 2 else 5) or width_of(book) * places > 10:
                continue
            told = {tuple(one.run(contents, inputs)) for contents in all_signs(one.lags(), prime)
                    for inputs in [[numbers[t * len(chosen):][:len(chosen)] for t in range(places)]
                                   for numbers in all_signs(len(chosen) * places, prime)]}
            self.assertEqual(len(told), prime ** (one.lags() + len(chosen) * places))
            for numbers in all_signs(width_of(book) * places, prime):
                sheet = [numbers[t * width_of(book):][:width_of(book)] for t in range(places)]
                self.assertIs(tuple(sheet) in told, book.lets(sheet))
            checked += 1
        self.assertGreater(checked, 30)

    def test_unlike_contents(self):
        """With noughts chosen only contents of noughts tell noughts as long as the greatest height."""
        for draw, book, chosen, one in drawn_machines("unlike", 150):
            units = [tuple(int(k == at) for k in range(one.lags())) for at in range(one.lags())]
            noughts = [(0,) * len(chosen)] * greatest(book)
            flat = [[n for sign in one.run(unit, noughts) for n in sign] for unit in units]
            self.assertEqual(len(echelon(flat, book.prime())), one.lags())


class Starts(unittest.TestCase):
    def test_of_let_sheets(self):
        for draw, book, chosen, one in drawn_machines("starts", 200):
            contents, inputs = drawn_inputs(draw, one, greatest(book) + 3)
            sheet = one.run(contents, inputs)
            for many in range(len(sheet) + 1):
                found = one.start_of(sheet[:many])
                self.assertTrue(type(found) is tuple and len(found) == one.lags())
                self.assertTrue(all(0 <= n < book.prime() for n in found))
                self.assertEqual(one.run(found, inputs[:many]), sheet[:many])
                self.assertEqual(one.start_of(tuple(sheet[:many])), found)
                if many >= greatest(book):
                    self.assertEqual(found, contents)

    def test_of_all_small_sheets(self):
        seen = [0, 0]
        for draw, book, chosen, one in drawn_machines("small sheets", 120, ends=3, most=3, primes=(2, 3)):
            width, prime = width_of(book), book.prime()
            for places in range(4):
                if width * places <= (8 if prime == 2 else 5):
                    for numbers in all_signs(width * places, prime):
                        sheet = [numbers[t * width:][:width] for t in range(places)]
                        found, let = one.start_of(sheet), book.lets(sheet)
                        seen[let] += 1
                        self.assertIs(found is not None, let)
                        if let:
                            inputs = [tuple(sign[end] for end in chosen) for sign in sheet]
                            self.assertEqual(one.run(found, inputs), sheet)
        self.assertGreater(min(seen), 1000)

    def test_short_ones(self):
        # The heights are unlike: a short sheet leaves some contents open, whichever they are it is told.
        book = Book([((1, 0, 0, 1), (), (1,)), ((), (1, 1), (2, 2))], left=1, right=2, prime=3)
        for chosen in leads(book):
            one = machine(book, chosen)
            for sign in all_signs(3, 3):
                found = one.start_of([sign])
                self.assertIs(found is not None, book.lets([sign]))
                if found is not None:
                    self.assertEqual(one.run(found, [tuple(sign[end] for end in chosen)]), [sign])
            self.assertEqual(len(one.start_of([])), one.lags())

    def test_sheets_are_not_changed(self):
        one = machine(book_of(then(("lag",), ("lag",)), prime=5), [0])
        sheet = [(1, 2)]
        one.start_of(sheet)
        self.assertEqual(sheet, [(1, 2)])


class TwoMachines(unittest.TestCase):
    def test_contents_are_exchanged(self):
        checked = 0
        for draw, book in drawn_books("two machines", 500):
            lists = leads(book)
            one, other = machine(book, draw.choice(lists)), machine(book, draw.choice(lists))
            prime, many = book.prime(), book.lags()
            places = greatest(book)

            def across(contents):
                """The other's contents that belong to these, found by one run, tried by another."""
                ways = [drawn_inputs(draw, one, places + 4)[1] for k in range(2)]
                starts = [other.start_of(one.run(contents, inputs)) for inputs in ways]
                self.assertEqual(starts[0], starts[1])
                for inputs in ways:
                    sheet = one.run(contents, inputs)
                    self.assertEqual(other.run(starts[0], [tuple(s[end] for end in other.chosen()) for s in sheet]), sheet)
                return starts[0]

            x, y = drawn_sign(draw, many, prime), drawn_sign(draw, many, prime)
            self.assertEqual(across(plus(x, y, prime)), plus(across(x), across(y), prime))
            units = [tuple(int(k == at) for k in range(many)) for at in range(many)]
            self.assertEqual(len(echelon([across(unit) for unit in units], prime)), many)
            checked += one.chosen() != other.chosen()
        self.assertGreater(checked, 30)


class Great(unittest.TestCase):
    def test_twenty_four_ends(self):
        draw = random.Random("24 ends")
        book = Book([drawn_even_row(draw, 97, 24, 12) for k in range(12)], left=12, right=12, prime=97)
        chosen = next(some for some in ([*range(12)], [*range(12, 24)]) if led(book, some)[0] == "led")
        one = machine(book, chosen)
        self.assertEqual(one.lags(), book.lags())
        contents, inputs = drawn_inputs(draw, one, 30)
        sheet = one.run(contents, inputs)
        self.assertIs(book.lets(sheet), True)
        self.assertEqual(one.start_of(sheet), contents)


class Refusals(unittest.TestCase):
    def test_ends_ahead_of_not_led(self):
        book = Book([((1,), (), (1, 1))], left=1, right=2, prime=3)
        for wrong in ([3], [-1], [1, 0], [0, 0], [BIG], [0, 1, 2, 3]):
            refused(self, BadEnds, machine, book, wrong)
        for chosen, why in [([], "loose"), ([0], "loose"), ([1], "loose"), ([2], "bound"), ([1, 2], "bound"),
                            ([0, 1, 2], "bound"), ([0, 2], "bound")]:
            found = refused(self, NotLed, machine, book, chosen)
            self.assertEqual(found.why, why)
            self.assertEqual(led(book, chosen)[0], why)
        self.assertEqual(machine(book=book, chosen=[0, 1]).lags(), 1)

    def test_contents(self):
        one = machine(book_of(then(("lag",), ("lag",)), prime=5), [0])
        for wrong in [(), (0,), (0, 0, 0), (0, 5), (-1, 0), (BIG, 0), (0, -BIG), (0,) * 60]:
            for numbers in ((1,), (), (9,)):
                refused(self, BadStart, one.step, wrong, numbers)
                refused(self, BadStart, one.run, wrong, [numbers])
            refused(self, BadStart, one.run, wrong, [])
        bare = machine(Book(), [0])
        refused(self, BadStart, bare.step, (0,), (1,))

    def test_numbers(self):
        one = machine(book_of(("sum", 2), prime=5), [0, 1])
        for wrong in [(), (0,), (0, 0, 0), (0, 5), (-1, 0), (BIG, 0), (0, -BIG), (0,) * 60]:
            self.assertEqual(refused(self, BadSheet, one.step, (), wrong).at, 0)
            for at in (0, 1, 7, 59):
                inputs = [(1, 2)] * at + [wrong] + [(3, 4)] * (59 - at)
                self.assertEqual(refused(self, BadSheet, one.run, (), inputs).at, at)
                self.assertEqual(refused(self, BadSheet, one.run, (), inputs[:at + 1] + [()]).at, at)

    def test_start_of(self):
        one = machine(book_of(turned(("lag",)), prime=5), [1])
        for wrong in [(), (0,), (0, 0, 0), (0, 5), (-1, 0), (BIG, 0)]:
            for at in (0, 1, 5):
                # Ahead of the bad sign stands what is not let.
                sheet = [(t, t) for t in range(at)] + [wrong, (0,)]
                self.assertEqual(refused(self, BadSheet, one.start_of, sheet).at, at)


if __name__ == "__main__":
    unittest.main()
