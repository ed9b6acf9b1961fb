"""The whole program: each error by a call of its own, and all its kinds of things one into the other."""

import random
import unittest

from lagworks import errors
from lagworks.books import Book, book_of, parting, within
from lagworks.choices import led, leads
from lagworks.freeparts import drawn, free_part, swing
from lagworks.machines import Engine, machine, wired
from lagworks.numbers import inverse
from lagworks.pages import page, read_page
from lagworks.sums import plus, read_sum
from lagworks.tables import told, without
from lagworks.tongue import read, write
from lagworks.watching import Watch
from lagworks.wirings import shape
from lagworks.works import Works
from tests.helper import (LAG, WIRE, beside, drawn_books, drawn_fits, drawn_sign, laid, refused, stood, then, turned, use,
                          width_of)


def watched(*signs):
    """Works with one watch on a lag that was fed these."""
    works = laid(a=LAG)
    works.watch("a")
    for sign in signs:
        works.feed(1, sign)
    return works


def each_error():
    """(error class, fields, call) for each of the twenty-four."""
    used = laid(a=WIRE, b=use("a"))
    full = laid(**{name: WIRE for name in "abcdefgh"})
    return [(errors.BadPrime, {}, lambda: plus((), (), prime=4)), (errors.BadNumber, {}, lambda: inverse(0, prime=5)),
            (errors.BadSum, {}, lambda: plus((0,), ())), (errors.BadTable, {"at": 1}, lambda: told([((1,),), ()], 1)),
            (errors.BadWidth, {}, lambda: told([], 0)), (errors.BadEnds, {}, lambda: without([], 2, [1, 0])),
            (errors.BadText, {}, lambda: read_sum("z + 1")), (errors.BadWiring, {}, lambda: shape(("no",))),
            (errors.Unshaped, {}, lambda: shape(then(("copy", 2), WIRE))),
            (errors.BadSheet, {"at": 2}, lambda: Book().lets([(0,), (1,), (2,)])),
            (errors.BadStart, {}, lambda: Engine(machine(Book(), [0]), start=(0,))),
            (errors.BadName, {}, lambda: Works().lay("A", WIRE)), (errors.BadDeed, {}, lambda: Works().do(("undo",))),
            (errors.BadPage, {"row": 1}, lambda: read_page("prime 2 next 1\nlay\n")),
            (errors.NotLed, {"why": "bound"}, lambda: machine(book_of(LAG), [1])),
            (errors.NotLed, {"why": "loose"}, lambda: machine(book_of(LAG), [])),
            (errors.Unlike, {}, lambda: within(Book(), Book(prime=3))),
            (errors.NoWiring, {"name": "x"}, lambda: Works().drop("x")),
            (errors.NoWatch, {"number": 7}, lambda: Works().close(7)), (errors.Taken, {}, lambda: used.lay("a", WIRE)),
            (errors.Full, {}, lambda: full.lay("i", WIRE)), (errors.Used, {"by": "b"}, lambda: used.drop("a")),
            (errors.Used, {"by": 1}, lambda: watched().drop("a")),
            (errors.Held, {"by": "b"}, lambda: laid(a=WIRE, b=then(use("a"), WIRE)).change("a", ("copy", 2))),
            (errors.Held, {"by": 1}, lambda: watched((1, 1)).change("a", WIRE) or watched((1, 2)).change("a", WIRE)),
            (errors.Stopped, {"equation": ((4,), (0, 1))}, lambda: watched((1, 1)).feed(1, (0, 0))),
            (errors.Nothing, {}, lambda: Works().undo())]


class Errors(unittest.TestCase):
    def test_each_by_a_call_of_its_own(self):
        kinds = set()
        for kind, fields, call in each_error():
            found = refused(self, kind, call)
            self.assertEqual(vars(found), {"word": kind.__name__, **fields})
            base, root = (errors.LagError, ValueError) if issubclass(kind, ValueError) else (errors.WorksError, LookupError)
            self.assertEqual(kind.__bases__, (base,))
            self.assertEqual(base.__bases__, (root,))
            kinds.add(kind)
        self.assertEqual(len(kinds), 24)


class OneIntoTheOther(unittest.TestCase):
    def test_engines_and_watches_meet(self):
        for draw, book in drawn_books("meet", 80):
            engine, watch = Engine(machine(book, draw.choice(leads(book)))), Watch(book)
            for k in range(8):
                sign = engine.feed(drawn_sign(draw, book.free(), book.prime()))
                self.assertIs(watch.may(sign), True)
                watch.feed(sign)
                if draw.random() < 0.2:
                    self.assertEqual(engine.back(), watch.back())
            self.assertEqual(engine.signs(), watch.sheet())
            self.assertEqual(len(engine), len(watch))

    def test_round_and_round(self):
        """A wiring's book, its machine, wired, written, laid, on a page, read back: the same book."""
        checked = 0
        for draw, prime, wiring in drawn_fits("round", 150):
            book = book_of(wiring, prime=prime)
            if width_of(book) > 6 or book.lags() > 6:
                continue
            again = wired(machine(book, draw.choice(leads(book))))
            self.assertEqual(read(write(again)), again)
            works = Works(prime=prime)
            works.many([("lay", "old", wiring), ("lay", "new", again), ("watch", "new"), ("watch", "old")])
            self.assertEqual(works.book("old"), works.book("new"))
            for k in range(4):
                sign = drawn_sign(draw, width_of(book), prime)
                self.assertEqual(works.may(1, sign), works.may(2, sign))
                if works.may(1, sign):
                    works.many([("feed", 1, sign), ("feed", 2, sign)])
            # Either wiring holds what the other one lets.
            works.change("old", again)
            works.change("new", wiring)
            text = page(works)
            self.assertEqual(page(read_page(text)), text)
            self.assertEqual(read_page(text).book("new"), book)
            checked += 1
        self.assertGreater(checked, 60)

    def test_sheets_of_runs(self):
        for draw, book in drawn_books("runs", 80):
            one = machine(book, leads(book)[0])
            sheet = one.run((0,) * one.lags(), [drawn_sign(draw, book.free(), book.prime()) for t in range(7)])
            watch = Watch(book)
            for sign in sheet:
                watch.feed(sign)
            self.assertEqual(watch.sheet(), sheet)
            self.assertIs(free_part(book).lets(sheet) if swing(book) == (1,) else True, True)

    def test_texts_of_sums_and_books(self):
        for draw, book in drawn_books("texts", 100):
            left, right = book.ends()
            rows = [tuple(read_sum(text, prime=book.prime()) for text in row.split(", "))
                    for row in str(book).split("\n") if row]
            self.assertEqual(Book(rows, left=left, right=right, prime=book.prime()), book)


class Held(unittest.TestCase):
    def test_lists_held_over_later_calls(self):
        draw = random.Random("held lists")
        book, other = book_of(beside(LAG, WIRE), prime=5), book_of(beside(LAG, turned(LAG)), prime=5)
        one = machine(book, [0, 1])
        engine, watch, works = Engine(one), Watch(book), watched((1, 1))
        calls = [book.equations, book.heights, lambda: parting(book, other), lambda: led(book, [0])[1],
                 lambda: led(book, [0, 1])[1], lambda: leads(book), one.chosen, lambda: one.run((1,), [(1, 2)]), engine.signs,
                 watch.sheet, lambda: drawn(book), works.names, works.watches, lambda: works.sheet(1), works.deeds,
                 lambda: works.trial([("watch", "a")]), lambda: told(book.equations(), 4, prime=5)]
        held = [call() for call in calls]
        kept = [list(one) for one in held]
        for k in range(3):
            sign = engine.feed(drawn_sign(draw, 2, 5))
            watch.feed(sign)
            works.lay("bcd"[k], WIRE)
            works.watch("a")
            works.feed(1, (0, works.sheet(1)[-1][0]))
            works.undo()
        self.assertEqual(held, kept)
        for told_list, call in zip(held, calls):
            again = call()
            self.assertIsNot(again, told_list)
            told_list.append("x")
            self.assertEqual(call(), again)

    def test_what_is_refused_changes_nothing(self):
        works = watched((1, 1), (2, 1))
        works.lay("b", use("a"))
        works.undo()
        before = stood(works)
        for action, *handed in [(works.lay, "A", WIRE), (works.change, "a", WIRE), (works.drop, "a"), (works.watch, "x"),
                                (works.feed, 1, (0, 0)), (works.feed, 1, ()), (works.close, 2), (works.do, ()),
                                (works.many, [("close", 1), ("drop", "a"), ("drop", "a")]), (works.trial, [0])]:
            with self.assertRaises((errors.LagError, errors.WorksError)):
                action(*handed)
            self.assertEqual(stood(works), before)
        self.assertEqual(works.redo(), ("lay", "b", use("a")))


if __name__ == "__main__":
    unittest.main()
