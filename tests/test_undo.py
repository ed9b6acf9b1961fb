"""Deeds undone and done again, twins, and when works are equal."""

import unittest

from lagworks.errors import NoWatch, NoWiring, Nothing, Stopped, Taken
from lagworks.works import Works
from tests.helper import LAG, WIRE, laid, refused, stood, then, use

DEEDS = [("lay", "a", LAG), ("lay", "b", then(use("a"), use("a"))), ("watch", "b"), ("feed", 1, (1, 2)),
         ("feed", 1, (3, 4)), ("watch", "a"), ("change", "b", then(use("a"), ("weigh", 1), use("a"))), ("close", 2),
         ("many", (("lay", "c", WIRE), ("watch", "c"), ("feed", 3, (1, 1)))), ("feed", 1, (0, 1)), ("close", 3),
         ("drop", "c"), ("many", ()), ("watch", "a"), ("lay", "c", use("b"))]


def run(deeds, works=None):
    works = works or Works(prime=5)
    for deed in deeds:
        works.do(deed)
    return works


class Undone(unittest.TestCase):
    def test_all_undone_and_all_done_again(self):
        works, before = Works(prime=5), []
        for deed in DEEDS:
            before.append(stood(works))
            works.do(deed)
        end = stood(works)
        self.assertEqual(works.deeds(), DEEDS)
        for k in range(2):
            for deed, told in zip(reversed(DEEDS), reversed(before)):
                self.assertEqual(works.undo(), deed)
                self.assertEqual(stood(works), told)
            refused(self, Nothing, works.undo)
            self.assertEqual(works, Works(prime=5))
            for deed, told in zip(DEEDS, before[1:] + [end]):
                self.assertEqual(works.redo(), deed)
                self.assertEqual(stood(works), told)
            refused(self, Nothing, works.redo)
            self.assertEqual(stood(works), end)

    def test_nothing(self):
        works = Works()
        refused(self, Nothing, works.undo)
        refused(self, Nothing, works.redo)
        works.lay("a", WIRE)
        refused(self, Nothing, works.redo)
        works.undo()
        refused(self, Nothing, works.undo)
        self.assertEqual(works.redo(), ("lay", "a", WIRE))

    def test_numbers(self):
        works = laid(a=WIRE)
        self.assertEqual((works.watch("a"), works.watch("a")), (1, 2))
        works.undo()
        self.assertEqual((works.coming(), works.watch("a")), (2, 2))
        works.close(2)
        works.undo()
        self.assertEqual((works.watches(), works.coming()), ([(1, "a"), (2, "a")], 3))
        works.close(2)
        # Closed, not undone: its number never comes again.
        self.assertEqual(works.watch("a"), 3)

    def test_another_deed_ends_what_can_be_done_again(self):
        works = laid(a=WIRE)
        works.watch("a")
        works.watch("a")
        works.undo()
        works.undo()
        works.lay("b", LAG)
        refused(self, Nothing, works.redo)
        self.assertEqual(works.deeds(), [("lay", "a", WIRE), ("lay", "b", LAG)])
        works.undo()
        self.assertEqual(works.redo(), ("lay", "b", LAG))
        refused(self, Nothing, works.redo)

    def test_refused_ones_trials_and_questions_do_not(self):
        works = laid(a=LAG)
        works.watch("a")
        works.feed(1, (1, 1))
        works.watch("a")
        works.undo()
        works.undo()
        works.feed(1, (2, 3))
        works.undo()
        refused(self, Taken, works.lay, "a", WIRE)
        refused(self, NoWiring, works.many, [("watch", "a"), ("watch", "x")])
        works.trial([("watch", "a"), ("close", 2)])
        works.names(), works.book("a"), works.may(1, (1, 1)), works.twin().lay("b", WIRE)
        self.assertEqual(works.redo(), ("feed", 1, (2, 3)))
        self.assertEqual(works.sheet(1), [(2, 3)])

    def test_order_of_names(self):
        works = laid(a=WIRE, b=WIRE, c=WIRE)
        works.drop("a")
        works.lay("a", LAG)
        self.assertEqual(works.names(), ["b", "c", "a"])
        works.undo()
        works.undo()
        self.assertEqual((works.names(), works.wiring("a")), (["a", "b", "c"], WIRE))
        works.redo()
        works.redo()
        self.assertEqual((works.names(), works.wiring("a")), (["b", "c", "a"], LAG))

    def test_books_behind(self):
        works = laid(a=WIRE, b=use("a"))
        lags = [works.book("b").lags()]
        for wiring in (LAG, then(LAG, LAG), WIRE):
            works.change("a", wiring)
            lags.append(works.book("b").lags())
        self.assertEqual(lags, [0, 1, 2, 0])
        for told in (2, 1, 0):
            works.undo()
            self.assertEqual(works.book("b").lags(), told)
        for told in (1, 2, 0):
            works.redo()
            self.assertEqual(works.book("b").lags(), told)


class Twins(unittest.TestCase):
    def test_own_ways(self):
        works = run(DEEDS[:9])
        works.undo()
        twin = works.twin()
        self.assertIsInstance(twin, Works)
        self.assertEqual(twin, works)
        self.assertEqual(stood(twin), stood(works))
        before = stood(works)
        twin.redo()
        twin.lay("z", WIRE)
        self.assertEqual(stood(works), before)
        while twin.deeds():
            twin.undo()
        self.assertEqual(stood(works), before)
        self.assertEqual(works.redo(), DEEDS[8])
        self.assertEqual((len(twin), len(works)), (0, 3))
        works.feed(1, (0, 1))
        for k in range(5):
            twin.redo()
        self.assertEqual((twin.sheet(1), works.sheet(1)), ([(1, 2), (3, 4)], [(1, 2), (3, 4), (0, 1)]))

    def test_twins_of_twins(self):
        works, twins = Works(prime=5), []
        for at, deed in enumerate(DEEDS):
            twins.append((works.twin(), works.deeds()))
            works.do(deed)
            if at % 3 == 2:
                works.undo()
                twins.append((works.twin().twin(), works.deeds()))
                works.redo()
        for twin, deeds in twins:
            self.assertEqual(twin.deeds(), deeds)
            self.assertEqual(twin, run(deeds))
            for deed in reversed(deeds):
                self.assertEqual(twin.undo(), deed)
            self.assertEqual(twin, Works(prime=5))
        self.assertEqual(works, run(DEEDS))


class Equal(unittest.TestCase):
    def test_equal(self):
        for many in range(len(DEEDS) + 1):
            one, other = run(DEEDS[:many]), run(DEEDS[:many])
            self.assertTrue(one == other and not one != other)
            for shorter in range(many):
                # The deed without deeds alone changes nothing.
                same = [d for d in DEEDS[shorter:many] if d != ("many", ())] == []
                self.assertIs(one == run(DEEDS[:shorter]), same)
                self.assertIs(one != run(DEEDS[:shorter]), not same)

    def test_by_other_deeds(self):
        one, other = laid(a=WIRE, b=LAG), laid(a=LAG)
        other.change("a", WIRE)
        other.many([("lay", "b", LAG)])
        self.assertEqual(one, other)
        self.assertNotEqual(one.deeds(), other.deeds())

    def test_unlike(self):
        one = laid(a=WIRE, b=LAG)
        for other in (laid(b=LAG, a=WIRE), laid(a=WIRE), laid(3, a=WIRE, b=LAG), laid(a=WIRE, b=WIRE), laid(a=WIRE, c=LAG),
                      laid(a=WIRE, b=("weigh", 1)), laid(a=WIRE, b=LAG, c=LAG)):
            self.assertTrue(one != other and other != one and not one == other)
        # The book is the same, the wiring is not.
        self.assertNotEqual(laid(a=WIRE), laid(a=("copy", 1)))
        one.watch("a")
        other = laid(a=WIRE, b=LAG)
        other.watch("b")
        self.assertNotEqual(one, other)
        other.close(1)
        self.assertNotEqual(other, laid(a=WIRE, b=LAG))
        third = laid(a=WIRE, b=LAG)
        third.watch("a")
        self.assertEqual(one, third)
        third.feed(1, (1, 1))
        self.assertNotEqual(one, third)
        one.feed(1, (2, 2))
        self.assertNotEqual(one, third)
        one.undo()
        one.feed(1, (1, 1))
        self.assertEqual(one, third)

    def test_watches_of_other_numbers(self):
        one, other = laid(a=WIRE), laid(a=WIRE)
        one.many([("watch", "a"), ("watch", "a"), ("close", 1)])
        other.many([("watch", "a"), ("watch", "a"), ("close", 2)])
        self.assertEqual(one.coming(), other.coming())
        self.assertNotEqual(one, other)

    def test_nothing_else(self):
        works = laid(a=WIRE)
        for thing in (None, 1, "", "a", ["a"], works.names(), {}, repr(works), works.book("a")):
            self.assertIs(works == thing, False)
            self.assertIs(thing == works, False)
            self.assertIs(works != thing, True)
        self.assertIn(laid(a=WIRE), [Works(), works])

    def test_len(self):
        works = Works()
        for many, name in enumerate("abcdefgh"):
            self.assertEqual(len(works), many)
            works.lay(name, WIRE)
        self.assertEqual(len(works), 8)
        works.drop("d")
        self.assertEqual(len(works), 7)


class Fields(unittest.TestCase):
    def test_stopped_behind_undo(self):
        works = laid(a=LAG)
        works.watch("a")
        works.feed(1, (1, 1))
        self.assertEqual(refused(self, Stopped, works.feed, 1, (0, 0)).equation, works.book("a").equations()[0])
        works.undo()
        works.feed(1, (0, 0))
        works.undo()
        works.undo()
        self.assertEqual(refused(self, NoWatch, works.feed, 1, (0, 0)).number, 1)


if __name__ == "__main__":
    unittest.main()
