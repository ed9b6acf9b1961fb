"""Engines: machines that run sign by sign and go back."""

import inspect
import unittest

from lagworks.books import Book, book_of
from lagworks.choices import leads
from lagworks.errors import BadSheet, BadStart, Nothing
from lagworks.machines import Engine, machine
from tests.helper import drawn_books, drawn_sign, refused, then

BIG = 99999999999999999999


def drawn_engines(seed, many):
    """(draw, machine, start, inputs)."""
    for draw, book in drawn_books(seed, many):
        one = machine(book, draw.choice(leads(book)))
        prime = book.prime()
        inputs = [drawn_sign(draw, len(one.chosen()), prime) for t in range(8)]
        yield draw, one, drawn_sign(draw, one.lags(), prime), inputs


class Runs(unittest.TestCase):
    def test_feed(self):
        for draw, one, start, inputs in drawn_engines("feed", 120):
            engine, contents = Engine(one, start=start), start
            self.assertEqual((engine.contents(), engine.signs(), len(engine)), (start, [], 0))
            for many, numbers in enumerate(inputs):
                sign, contents = one.step(contents, numbers)
                self.assertEqual(engine.feed(numbers), sign)
                self.assertEqual((engine.contents(), len(engine)), (contents, many + 1))
            self.assertIs(type(engine.contents()), tuple)
            self.assertIs(type(engine.signs()), list)
            self.assertEqual(engine.signs(), one.run(start, inputs))

    def test_start_left_out(self):
        for draw, one, start, inputs in drawn_engines("left out", 60):
            for engine in (Engine(one), Engine(one, start=None), Engine(machine=one, start=(0,) * one.lags())):
                self.assertEqual(engine.contents(), (0,) * one.lags())
                for numbers in inputs:
                    engine.feed(numbers=numbers)
                self.assertEqual(engine.signs(), one.run((0,) * one.lags(), inputs))
        self.assertEqual(str(inspect.signature(Engine)), "(machine, *, start=None)")

    def test_back(self):
        for draw, one, start, inputs in drawn_engines("back", 120):
            engine, stood = Engine(one, start=start), []
            for numbers in inputs:
                stood.append((engine.contents(), engine.signs()))
                engine.feed(numbers)
            for contents, signs in reversed(stood):
                last = engine.signs()[-1]
                self.assertEqual(engine.back(), last)
                self.assertEqual((engine.contents(), engine.signs(), len(engine)), (contents, signs, len(signs)))
                if draw.random() < 0.3:
                    self.assertEqual(engine.feed(inputs[0]), one.step(contents, inputs[0])[0])
                    engine.back()
            refused(self, Nothing, engine.back)
            self.assertEqual((engine.contents(), len(engine)), (start, 0))
            engine.feed(inputs[0])
            self.assertEqual(len(engine), 1)

    def test_long_ones(self):
        one = machine(book_of(then(("lag",), ("lag",)), prime=97), [0])
        engine = Engine(one)
        for t in range(300):
            self.assertEqual(engine.feed((t % 97,)), (t % 97, (t - 2) % 97 if t >= 2 else 0))
        for t in reversed(range(300)):
            self.assertEqual(engine.back(), (t % 97, (t - 2) % 97 if t >= 2 else 0))


class Twins(unittest.TestCase):
    def test_own_ways(self):
        for draw, one, start, inputs in drawn_engines("twins", 100):
            engine = Engine(one, start=start)
            for numbers in inputs[:4]:
                engine.feed(numbers)
            twin = engine.twin()
            self.assertIsInstance(twin, Engine)
            stood = engine.contents(), engine.signs()
            self.assertEqual((twin.contents(), twin.signs(), len(twin)), (*stood, 4))
            twin.feed(inputs[4])
            twin.feed(inputs[5])
            self.assertEqual((engine.contents(), engine.signs()), stood)
            engine.back()
            engine.back()
            self.assertEqual(twin.signs(), one.run(start, inputs[:6]))
            engine.feed(inputs[6])
            self.assertEqual(engine.signs(), one.run(start, inputs[:2] + [inputs[6]]))
            for k in range(6):
                twin.back()
            self.assertEqual((twin.contents(), len(twin), len(engine)), (start, 0, 3))
            refused(self, Nothing, twin.back)
            self.assertEqual(engine.twin().twin().signs(), engine.signs())

    def test_told_signs_spoilt(self):
        engine = Engine(machine(Book(), [0]))
        engine.feed((1,))
        engine.signs().append((0,))
        engine.signs().clear()
        self.assertEqual((engine.signs(), len(engine)), ([(1,)], 1))
        held = engine.signs()
        engine.feed((0,))
        self.assertEqual(held, [(1,)])


class Refusals(unittest.TestCase):
    def test_starts(self):
        one = machine(book_of(then(("lag",), ("lag",)), prime=5), [0])
        for wrong in [(), (0,), (0, 0, 0), (0, 5), (-1, 0), (BIG, 0), (0, -BIG), (0,) * 60]:
            refused(self, BadStart, Engine, one, start=wrong)
        refused(self, BadStart, Engine, machine(Book(), [0]), start=(0,))

    def test_feeds_change_nothing(self):
        one = machine(book_of(("lag",), prime=5), [0])
        engine = Engine(one, start=(3,))
        for many in range(3):
            stood = engine.contents(), engine.signs(), len(engine)
            for wrong in [(), (0, 0), (5,), (-1,), (BIG,), (-BIG,), (0,) * 60]:
                self.assertEqual(refused(self, BadSheet, engine.feed, wrong).at, 0)
                self.assertEqual((engine.contents(), engine.signs(), len(engine)), stood)
            engine.feed((many,))
        self.assertEqual(len(engine), 3)


if __name__ == "__main__":
    unittest.main()
