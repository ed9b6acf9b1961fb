"""Works: deeds, their refusals in order, and questions."""

import inspect
import unittest

from lagworks.books import book_of
from lagworks.errors import (BadName, BadPrime, BadSheet, BadWiring, Full, Held, NoWatch, NoWiring, Stopped, Taken,
                             Unshaped, Used)
from lagworks.stands import NAMES, WATCHES
from lagworks.works import Works
from tests.helper import (ALL_PRIMES, LAG, NO_PRIMES, WIRE, beside, laid, nested, refuse, refused, ring, then,
                          too_great_wirings, turned, use, wrong_wirings)

BIG = 99999999999999999999
WRONG_NAMES = ["", "A", "aB", "abcdefghi", "a b", "a1", "a-b", "a\n", "\n", " ", "_", "~", "a" * 4000]


class Lay(unittest.TestCase):
    def test_laid(self):
        works = Works(prime=5)
        self.assertEqual((works.names(), len(works), works.prime()), ([], 0, 5))
        self.assertIsNone(works.lay("b", LAG))
        self.assertIsNone(works.do(("lay", "a", then(use("b"), ("weigh", 3), use("b")))))
        self.assertIsNone(works.lay(name="zzzzzzzz", wiring=beside(use("a"), use("b"))))
        self.assertEqual((works.names(), len(works)), (["b", "a", "zzzzzzzz"], 3))
        self.assertEqual(works.wiring("a"), then(use("b"), ("weigh", 3), use("b")))
        self.assertEqual(works.whole("a"), then(LAG, ("weigh", 3), LAG))
        self.assertEqual(works.whole("zzzzzzzz"), beside(then(LAG, ("weigh", 3), LAG), LAG))
        self.assertEqual((works.shape("a"), works.shape("zzzzzzzz")), ((1, 1), (2, 2)))
        self.assertEqual(works.book("zzzzzzzz"), book_of(beside(then(LAG, ("weigh", 3), LAG), LAG), prime=5))

    def test_bad_name(self):
        works = laid(a=WIRE)
        for name in WRONG_NAMES:
            refuse(self, works, BadName, "lay", name, WIRE)
            refuse(self, works, BadName, "lay", name, ("no",))

    def test_taken(self):
        works = laid(a=WIRE)
        for wiring in (WIRE, ("no",), use("b"), then(("copy", 2), WIRE)):
            refuse(self, works, Taken, "lay", "a", wiring)

    def test_bad_wiring_by_itself(self):
        works = laid(a=WIRE)
        for wiring in wrong_wirings():
            refused(self, BadWiring, works.lay, "b", wiring)
        self.assertEqual(works.names(), ["a"])
        # Ahead of a name that isn't laid.
        for wiring in (then(use("x"), ("no",)), then(use("x"), use("X")), beside(*[use("x")] * 13),
                       nested("turned", 16, use("x")), then(use("x"), use(""))):
            refuse(self, works, BadWiring, "lay", "b", wiring)

    def test_no_wiring(self):
        works = laid(a=WIRE, c=("copy", 2))
        for wiring, name in [(use("b"), "b"), (then(use("a"), use("x"), use("y")), "x"),
                             (beside(turned(use("c")), ring(use("q")), use("p")), "q"),
                             (then(then(use("a"), then(use("a"), use("zz"))), use("a"), use("a")), "zz"),
                             # Ahead of what would be none with what it uses put in, and of ends that don't fit.
                             (then(*[LAG] * 8, use("n")), "n"), (then(("copy", 2), use("n")), "n"),
                             (then(use("c"), use("c"), use("m"), use("k")), "m")]:
            self.assertEqual(refuse(self, works, NoWiring, "lay", "b", wiring).name, name)
        # By itself: the name that is being laid is not laid ahead.
        self.assertEqual(refuse(self, works, NoWiring, "lay", "b", ring(use("b"))).name, "b")

    def test_bad_wiring_with_what_it_uses(self):
        five, twelve = beside(*[WIRE] * 5), then(*[WIRE] * 12)
        works = laid(deep=nested("turned", 14, WIRE), many=then(*[five] * 11), four=then(*[LAG] * 4), eight=then(*[LAG] * 8))
        works.lay("use", beside(use("four"), use("four")))
        works.lay("deeper", turned(use("deep")))
        for wiring in (turned(use("deeper")), then(use("deep"), nested("beside", 2, use("deep"))),
                       then(use("many"), five, WIRE), beside(use("many"), then(*[WIRE] * 6)),
                       then(use("four"), use("four"), LAG), then(use("eight"), LAG), then(use("four"), use("eight")),
                       beside(use("use"), LAG), then(use("use"), use("use")), then(twelve, use("many")),
                       # Ahead of ends that don't fit.
                       then(("copy", 2), use("eight"), LAG)):
            refuse(self, works, BadWiring, "lay", "b", wiring)
        works.lay("b", then(use("many"), five))
        works.lay("c", beside(use("deep"), WIRE, use("eight")))
        self.assertEqual(len(works), 8)

    def test_counts_by_itself(self):
        # A use is one box, one deep; a small name makes sixty of them.
        works = laid(a=WIRE)
        works.lay("b", then(*[beside(*[use("a")] * 5)] * 12))
        works.lay("c", nested("turned", 15, use("a")))
        self.assertEqual(works.whole("c"), nested("turned", 15, WIRE))
        refuse(self, works, BadWiring, "lay", "d", beside(use("b"), use("a")))
        for wiring in too_great_wirings():
            refused(self, BadWiring, works.lay, "d", wiring)

    def test_unshaped(self):
        works = laid(two=("copy", 2), none=("copy", 0), wide=("mix", ((1,) * 12,)))
        for wiring in (then(use("two"), use("two")), ring(use("none")), ring(turned(use("none"))), beside(use("wide"), WIRE),
                       then(use("two"), WIRE), ring(ring(WIRE)), turned(beside(use("wide"), use("two")))):
            refuse(self, works, Unshaped, "lay", "a", wiring)

    def test_full(self):
        self.assertEqual((NAMES, WATCHES), (8, 6))
        works = laid(**{name: WIRE for name in "hgfedcba"})
        self.assertEqual(len(works), 8)
        refuse(self, works, Full, "lay", "i", WIRE)
        refuse(self, works, BadName, "lay", "I", WIRE)
        refuse(self, works, Taken, "lay", "a", WIRE)
        refuse(self, works, BadWiring, "lay", "i", ("no",))
        refuse(self, works, NoWiring, "lay", "i", use("i"))
        refuse(self, works, BadWiring, "lay", "i", then(*[LAG] * 9))
        refuse(self, works, Unshaped, "lay", "i", ring(("sum", 0)))
        works.drop("c")
        works.lay("i", WIRE)
        self.assertEqual(works.names(), list("hgfedbai"))


class Change(unittest.TestCase):
    def test_changed(self):
        works = laid(a=WIRE, b=then(use("a"), use("a")), c=LAG)
        self.assertIsNone(works.change("a", LAG))
        self.assertEqual((works.names(), works.wiring("a")), (["a", "b", "c"], LAG))
        self.assertEqual((works.whole("b"), works.book("b")), (then(LAG, LAG), book_of(then(LAG, LAG), prime=5)))
        self.assertIsNone(works.do(("change", "b", beside(use("a"), WIRE))))
        self.assertEqual(works.shape("b"), (2, 2))
        works.change(name="c", wiring=then(use("b"), turned(use("b"))))
        self.assertEqual(works.whole("c"), then(beside(LAG, WIRE), turned(beside(LAG, WIRE))))
        works.change("a", ("weigh", 2))
        self.assertEqual(works.book("c"), book_of(beside(WIRE, WIRE), prime=5))

    def test_refusals_in_order(self):
        works = laid(a=WIRE, b=LAG, c=use("b"))
        for wiring in (WIRE, ("no",), use("x")):
            self.assertEqual(refuse(self, works, NoWiring, "change", "x", wiring).name, "x")
            self.assertEqual(refuse(self, works, NoWiring, "change", "X", wiring).name, "X")
        refuse(self, works, BadWiring, "change", "b", then(use("x"), ("no",)))
        for used in ("b", "c", "x"):
            self.assertEqual(refuse(self, works, NoWiring, "change", "b", then(use("a"), use(used), use("y"))).name, used)
        works.change("a", then(*[LAG] * 8))
        refuse(self, works, BadWiring, "change", "b", then(("copy", 2), use("a"), LAG))
        refuse(self, works, Unshaped, "change", "b", then(("copy", 2), use("a")))
        for name in WRONG_NAMES:
            self.assertEqual(refuse(self, works, NoWiring, "change", name, WIRE).name, name)

    def test_eight_names_are_no_bar(self):
        works = laid(**{name: WIRE for name in "abcdefgh"})
        works.change("h", then(*[use(name) for name in "abcdefg"]))
        self.assertEqual(works.names(), list("abcdefgh"))

    def test_held_by_wirings(self):
        works = laid(a=WIRE, b=WIRE, c=then(use("a"), LAG), d=then(use("c"), use("c")), e=then(use("b"), use("a")))
        works.lay("f", ring(use("b")))
        for name, wiring, by in [("a", ("copy", 2), "c"), ("a", then(*[LAG] * 3), None), ("a", then(*[LAG] * 4), "d"),
                                 ("a", then(*[LAG] * 8), "c"), ("a", nested("turned", 14, WIRE), "d"),
                                 ("b", ("copy", 2), "e"), ("b", ("copy", 1), None), ("c", ("sum", 2), "d"),
                                 ("a", nested("turned", 15, WIRE), "c"), ("a", beside(WIRE, WIRE), "c"),
                                 ("b", turned(WIRE), None), ("a", then(*[then(*[WIRE] * 12)] * 5), "c"),
                                 ("b", ("copy", 0), "e"), ("e", ("copy", 4), None), ("f", ("copy", 4), None)]:
            if by is None:
                works.change(name, wiring)
                works.undo()
            else:
                self.assertEqual(refuse(self, works, Held, "change", name, wiring).by, by)

    def test_held_by_watches(self):
        works = laid(a=WIRE, b=then(use("a"), use("a")), c=LAG)
        for name in "bacba":
            works.watch(name)
        works.feed(1, (1, 1))
        works.feed(5, (2, 2))
        works.feed(5, (0, 0))
        works.feed(4, (0, 0))
        # 1 watches b, which is twice a: four times one is no one; -1 twice is one.
        self.assertEqual(refuse(self, works, Held, "change", "a", ("weigh", 2)).by, 1)
        self.assertEqual(refuse(self, works, Held, "change", "a", ("weigh", 4)).by, 5)
        self.assertEqual(refuse(self, works, Held, "change", "b", ("copy", 2)).by, 1)
        self.assertEqual(refuse(self, works, Held, "change", "b", turned(("copy", 0))).by, 1)
        # Two left ends and none on the right are as many ends.
        works.change("b", then(turned(("copy", 2)), ("copy", 0)))
        self.assertEqual(works.shape("b"), (2, 0))
        self.assertEqual(works.sheet(1), [(1, 1)])
        works.undo()
        works.close(1)
        self.assertEqual(refuse(self, works, Held, "change", "a", ("weigh", 2)).by, 5)
        works.close(5)
        works.change("a", ("weigh", 2))
        # What has no signs may have any ends.
        works.change("c", ("copy", 3))
        self.assertEqual(works.ways(3), 5)
        # Noughts of two ends are none of three.
        self.assertEqual(refuse(self, works, Held, "change", "b", beside(use("a"), ("sum", 0))).by, 4)

    def test_wirings_ahead_of_watches(self):
        works = laid(a=WIRE, b=ring(use("a")))
        works.watch("a")
        works.feed(1, (1, 1))
        self.assertEqual(refuse(self, works, Held, "change", "a", ("copy", 0)).by, "b")
        self.assertEqual(refuse(self, works, Held, "change", "a", ("weigh", 3)).by, 1)

    def test_watches_of_lags(self):
        works = laid(a=LAG)
        works.watch("a")
        for sign in [(1, 4), (2, 1), (3, 2)]:
            works.feed(1, sign)
        self.assertEqual(refuse(self, works, Held, "change", "a", then(LAG, LAG)).by, 1)
        self.assertEqual(refuse(self, works, Held, "change", "a", turned(LAG)).by, 1)
        works.change("a", then(turned(LAG), LAG, LAG))
        self.assertEqual(works.sheet(1), [(1, 4), (2, 1), (3, 2)])
        self.assertTrue(works.may(1, (0, 3)))
        refuse(self, works, Stopped, "feed", 1, (0, 0))


class Drop(unittest.TestCase):
    def test_dropped(self):
        works = laid(a=WIRE, b=use("a"), c=LAG)
        self.assertIsNone(works.drop("b"))
        self.assertEqual(works.names(), ["a", "c"])
        works.lay("b", use("c"))
        self.assertEqual(works.names(), ["a", "c", "b"])
        works.do(("drop", "a"))
        works.lay("a", use("b"))
        self.assertEqual((works.names(), works.whole("a"), works.book("a")), (["c", "b", "a"], LAG, book_of(LAG, prime=5)))
        self.assertEqual(refuse(self, works, NoWiring, "lay", "d", use("e")).name, "e")
        works.drop(name="a")
        self.assertEqual(len(works), 2)

    def test_another_book_by_the_same_name(self):
        works = laid(a=WIRE)
        self.assertEqual(works.book("a"), book_of(WIRE, prime=5))
        works.drop("a")
        works.lay("a", LAG)
        self.assertEqual(works.book("a"), book_of(LAG, prime=5))
        works.undo()
        works.undo()
        self.assertEqual(works.book("a"), book_of(WIRE, prime=5))

    def test_refusals(self):
        works = laid(a=WIRE, b=LAG, d=ring(use("a")), c=then(use("b"), use("a"), use("b")))
        for name in WRONG_NAMES + ["x"]:
            self.assertEqual(refuse(self, works, NoWiring, "drop", name).name, name)
        for name in "babb":
            works.watch(name)
        self.assertEqual(refuse(self, works, Used, "drop", "a").by, "d")
        self.assertEqual(refuse(self, works, Used, "drop", "b").by, "c")
        works.drop("c")
        self.assertEqual(refuse(self, works, Used, "drop", "b").by, 1)
        works.close(1)
        self.assertEqual(refuse(self, works, Used, "drop", "b").by, 3)
        works.drop("d")
        self.assertEqual(refuse(self, works, Used, "drop", "a").by, 2)
        for number in (2, 3, 4):
            works.close(number)
        works.drop("a")
        works.drop("b")
        self.assertEqual(len(works), 0)


class Watches(unittest.TestCase):
    def test_numbers(self):
        works = laid(a=WIRE, b=LAG)
        self.assertEqual((works.watch("a"), works.do(("watch", "b")), works.watch(name="a")), (1, 2, 3))
        self.assertEqual((works.watches(), works.coming()), ([(1, "a"), (2, "b"), (3, "a")], 4))
        self.assertIsNone(works.close(2))
        self.assertIsNone(works.close(number=3))
        self.assertEqual((works.watch("b"), works.watches(), works.coming()), (4, [(1, "a"), (4, "b")], 5))
        works.close(1)
        works.do(("close", 4))
        self.assertEqual((works.watches(), works.coming(), works.watch("a")), ([], 5, 5))

    def test_full(self):
        works = laid(a=WIRE)
        for number in range(1, 7):
            self.assertEqual(works.watch("a"), number)
        refuse(self, works, Full, "watch", "a")
        self.assertEqual(refuse(self, works, NoWiring, "watch", "x").name, "x")
        works.close(3)
        self.assertEqual(works.watch("a"), 7)
        refuse(self, works, Full, "watch", "a")
        self.assertEqual([number for number, name in works.watches()], [1, 2, 4, 5, 6, 7])

    def test_feed(self):
        works = laid(a=LAG)
        works.watch("a")
        works.watch("a")
        self.assertEqual((works.ways(1), works.may(1, (3, 4))), (25, True))
        self.assertIsNone(works.feed(1, (3, 4)))
        self.assertIsNone(works.do(("feed", 1, (0, 3))))
        works.feed(number=1, sign=(1, 0))
        self.assertEqual((works.sheet(1), works.sheet(2), works.ways(1), works.ways(2)), ([(3, 4), (0, 3), (1, 0)], [], 5, 25))
        self.assertEqual((works.may(1, (0, 0)), works.may(1, (0, 1)), works.may(number=2, sign=(0, 0))), (False, True, True))
        self.assertEqual(refuse(self, works, Stopped, "feed", 1, (0, 0)).equation, ((4,), (0, 1)))
        for t in range(100):
            works.feed(2, (0, 0))
        self.assertEqual(len(works.sheet(2)), 100)

    def test_refusals(self):
        works = laid(a=WIRE)
        works.watch("a")
        works.watch("a")
        works.close(1)
        for number in (0, 1, 3, -1, BIG, -BIG):
            for sign in ((0, 0), (), (9, 9)):
                self.assertEqual(refuse(self, works, NoWatch, "feed", number, sign).number, number)
                self.assertEqual(refused(self, NoWatch, works.may, number, sign).number, number)
            self.assertEqual(refuse(self, works, NoWatch, "close", number).number, number)
            self.assertEqual(refused(self, NoWatch, works.sheet, number).number, number)
            self.assertEqual(refused(self, NoWatch, works.ways, number).number, number)
        for wrong in [(), (0,), (0, 0, 0), (5, 0), (0, -1), (BIG, BIG), (0,) * 60]:
            self.assertEqual(refuse(self, works, BadSheet, "feed", 2, wrong).at, 0)
            self.assertEqual(refused(self, BadSheet, works.may, 2, wrong).at, 0)
        self.assertEqual(refuse(self, works, Stopped, "feed", 2, (0, 1)).equation, ((4,), (1,)))


class Questions(unittest.TestCase):
    def test_no_wiring(self):
        works = laid(a=WIRE)
        for name in WRONG_NAMES + ["b", "aa"]:
            for action in (works.wiring, works.whole, works.shape, works.book):
                self.assertEqual(refused(self, NoWiring, action, name).name, name)

    def test_behind_changes(self):
        works = laid(a=WIRE, b=beside(use("a"), use("a")), c=then(use("b"), use("b")))
        works.watch("c")
        asked = [works.book(name) for name in "abc"]
        works.change("a", LAG)
        self.assertEqual(works.whole("c"), then(beside(LAG, LAG), beside(LAG, LAG)))
        self.assertEqual([works.book(name).lags() for name in "abc"], [1, 2, 4])
        self.assertEqual(works.ways(1), 5 ** 4)
        works.undo()
        self.assertEqual([works.book(name) for name in "abc"], asked)
        self.assertEqual(works.ways(1), 5 ** 2)
        works.redo()
        self.assertEqual([works.book(name).lags() for name in "abc"], [1, 2, 4])
        self.assertEqual([works.shape(name) for name in "abc"], [(1, 1), (2, 2), (2, 2)])

    def test_told_lists_spoilt(self):
        works = laid(a=WIRE)
        works.watch("a")
        works.feed(1, (1, 1))
        held = works.names(), works.watches(), works.sheet(1), works.deeds()
        kept = [list(one) for one in held]
        for action in (works.names, works.watches, works.deeds, lambda: works.sheet(1)):
            action().append("x")
            action().clear()
            self.assertIs(type(action()), list)
        self.assertEqual([list(one) for one in (works.names(), works.watches(), works.sheet(1), works.deeds())], kept)
        works.lay("b", LAG)
        works.feed(1, (2, 2))
        works.watch("b")
        self.assertEqual([list(one) for one in held], kept)
        works.book("a").equations().clear()
        self.assertEqual(works.book("a"), book_of(WIRE, prime=5))

    def test_primes(self):
        self.assertEqual((Works().prime(), str(inspect.signature(Works))), (2, "(*, prime=2)"))
        for prime in ALL_PRIMES:
            works = laid(prime, a=("weigh", 3))
            self.assertEqual((works.prime(), works.book("a")), (prime, book_of(("weigh", 3), prime=prime)))
        for prime in NO_PRIMES:
            refused(self, BadPrime, Works, prime=prime)

    def test_repr(self):
        works = laid(a=WIRE, b=LAG)
        works.watch("b")
        self.assertEqual(repr(works), "Works(2 wirings, 1 watches, by 5)")
        self.assertEqual(repr(Works()), "Works(0 wirings, 0 watches, by 2)")

    def test_great_ones(self):
        """Eight names of twelve ends, each used by the next one."""
        mix = ("mix", tuple(tuple((a * b + 1) % 97 for b in range(12)) for a in range(12)))
        works = laid(97, a=then(*[mix] * 6, beside(*[LAG] * 8, ("shuffle", (0, 1, 2, 3)))))
        for before, name in zip("abcdefg", "bcdefgh"):
            works.lay(name, then(use(before), mix, mix))
        self.assertEqual((works.shape("h"), works.book("h").lags() <= 8), ((12, 12), True))
        works.watch("h")
        works.feed(1, (0,) * 24)
        works.change("a", then(mix, beside(*[LAG] * 8, ("shuffle", (3, 2, 1, 0)))))
        self.assertEqual(works.book("h").prime(), 97)


if __name__ == "__main__":
    unittest.main()
