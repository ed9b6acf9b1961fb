"""Pages: works as texts, there and back."""

import random
import unittest

from lagworks.errors import BadPage, Nothing
from lagworks.pages import page, read_page
from lagworks.tongue import write
from lagworks.works import Works
from tests.helper import (ALL_PRIMES, LAG, WIRE, beside, drawn_fits, laid, nested, refused, ring, stood, then, turned,
                          use)

GOOD = """prime 5 next 12
lay a lag
lay b use a ; weigh 3
lay none copy 0 | sum 0
watch 3 b
sign 1 2
sign 4 3
watch 7 a
watch 11 b
sign 0 0
"""


def plain_page(works):
    """The text of works, as [21] says."""
    text = f"prime {works.prime()} next {works.coming()}\n"
    for name in works.names():
        text += "lay " + name + " " + write(works.wiring(name)) + "\n"
    for number, name in works.watches():
        text += "watch " + str(number) + " " + name + "\n"
        for sign in works.sheet(number):
            text += "sign" + "".join(f" {n}" for n in sign) + "\n"
    return text


def drawn_works(seed, many):
    """Works with drawn wirings and watches, some of them closed."""
    draw = random.Random(seed)
    wirings = drawn_fits(seed, many * 3, deep=3)
    for k in range(many):
        works = Works(prime=draw.choice([2, 3, 97]))
        for name, (more, prime, wiring) in zip(("a", "bb", "ccc"), wirings):
            works.lay(name, wiring)
        works.lay("d", beside(use("a"), turned(use("bb"))))
        for turn in range(draw.randint(0, 6)):
            works.watch(draw.choice(works.names()))
        for number, name in works.watches():
            if draw.random() < 0.3:
                works.close(number)
            else:
                width = sum(works.shape(name))
                for place in range(draw.randint(0, 3)):
                    signs = [tuple(draw.randrange(works.prime()) for end in range(width)) for turn in range(4)]
                    may = [sign for sign in signs + [(0,) * width] if works.may(number, sign)]
                    if may:
                        works.feed(number, may[0])
        yield draw, works


class ThereAndBack(unittest.TestCase):
    def check(self, works):
        text = page(works)
        self.assertIs(type(text), str)
        self.assertEqual(text, plain_page(works))
        again = read_page(text)
        self.assertIsInstance(again, Works)
        self.assertEqual(again, works)
        self.assertEqual(page(again), text)
        self.assertEqual(again.deeds(), [])
        refused(self, Nothing, again.undo)
        refused(self, Nothing, again.redo)
        return again

    def test_drawn(self):
        for draw, works in drawn_works("pages", 60):
            self.check(works)

    def test_good(self):
        works = read_page(GOOD)
        self.assertEqual(page(works), GOOD)
        self.assertEqual((works.names(), works.watches(), works.coming()), (["a", "b", "none"], [(3, "b"), (7, "a"), (11, "b")], 12))
        self.assertEqual([works.sheet(k) for k in (3, 7, 11)], [[(1, 2), (4, 3)], [], [(0, 0)]])
        self.check(works)

    def test_empty_ones(self):
        for prime in ALL_PRIMES:
            works = Works(prime=prime)
            self.assertEqual(page(works), f"prime {prime} next 1\n")
            self.check(works)
        for number in (1, 2, 9, 10, 100, 999999):
            self.assertEqual(read_page(f"prime 2 next {number}\n").coming(), number)

    def test_full_ones(self):
        works = laid(97, **{name: WIRE for name in "hgfedcba"})
        for k in range(6):
            works.watch("a")
            for t in range(k):
                works.feed(k + 1, (t, t))
        self.check(works)
        self.assertEqual(page(works).count("\n"), 1 + 8 + 6 + 15)

    def test_no_ends(self):
        works = laid(a=ring(WIRE))
        works.watch("a")
        works.feed(1, ())
        works.feed(1, ())
        self.assertEqual(page(works), "prime 5 next 2\nlay a ring(wire)\nwatch 1 a\nsign\nsign\n")
        self.check(works)

    def test_behind_drops_and_changes(self):
        works = laid(a=WIRE, b=LAG, c=use("a"))
        works.change("c", then(use("b"), use("a")))
        works.drop("c")
        works.change("b", beside(use("a"), use("a")))
        works.lay("c", use("b"))
        works.watch("c")
        works.close(1)
        self.assertEqual(page(works), "prime 5 next 2\nlay a wire\nlay b use a | use a\nlay c use b\n")
        self.check(works)

    def test_both_go_on_alike(self):
        for draw, works in drawn_works("going on", 20):
            again = self.check(works)
            for deed in [("lay", "new", use("d")), ("watch", "new"), ("many", [("watch", "a"), ("lay", "last", WIRE)]),
                         ("change", "a", WIRE), ("drop", "new"), ("close", 1), ("close", 2), ("watch", "last")]:
                told = []
                for one in (works, again):
                    try:
                        told.append((one.do(deed), None))
                    except (ValueError, LookupError) as error:
                        told.append((error.word, {k: v for k, v in vars(error).items()}))
                self.assertEqual(told[0], told[1])
                self.assertEqual(works, again)
            done = again.deeds()
            for deed in reversed(done):
                self.assertEqual(again.undo(), deed)
            refused(self, Nothing, again.undo)
            for deed in done:
                self.assertEqual(again.redo(), deed)
            self.assertEqual(works, again)

    def test_pages_change_nothing(self):
        works = read_page(GOOD)
        works.lay("x", WIRE)
        works.undo()
        before = stood(works)
        page(works)
        self.assertEqual(stood(works), before)
        self.assertEqual(works.redo(), ("lay", "x", WIRE))

    def test_great_ones(self):
        mix = ("mix", ((96,) * 12,) * 12)
        works = laid(97, a=then(*[mix] * 4), b=nested("turned", 15, LAG))
        works.watch("a")
        for k in range(70):
            works.feed(1, (0,) * 24)
        self.check(works)


class Refusals(unittest.TestCase):
    def bad(self, text, row):
        self.assertEqual(refused(self, BadPage, read_page, text).row, row, text)

    def rows(self, row, *others):
        """The good page with a row, or several, in place of one."""
        rows = GOOD.split("\n")[:-1]
        return "".join(one + "\n" for one in rows[:row] + list(others) + rows[row + 1:])

    def test_line_feeds(self):
        self.bad("", 0)
        self.bad("\n", 0)
        self.bad("prime 2 next 1", 0)
        self.bad(GOOD[:-1], 9)
        self.bad(GOOD + "\n", 10)
        self.bad(GOOD + "watch", 10)
        self.bad(GOOD + " ", 10)
        self.bad("\n" + GOOD, 0)
        self.bad(GOOD.replace("\n", "\n\n", 1), 1)
        self.bad(GOOD.replace("sign 4 3\n", "\nsign 4 3\n"), 6)
        for many in range(1, 10):
            self.bad("\n".join(GOOD.split("\n")[:many]), many - 1)
        # An earlier bad row goes ahead of the missing line feed.
        self.bad("prime 2 next 1\nlay A wire\nlay b wire", 1)
        self.bad("prime 4 next 1", 0)
        self.bad(GOOD.replace("sign 4 3", "sign 4 4")[:-1], 6)

    def test_first_rows(self):
        for row in ["", "prime", "prime ", "prime 5", "prime 5 next", "prime 5 next ", "prime 4 next 1", "prime 0 next 1",
                    "prime 1 next 1", "prime 98 next 1", "prime 101 next 1", "prime 05 next 12", "prime 5 next 012",
                    "prime 5 next 0", "prime 5 next 00", "prime 5 next 1000000", "prime 5 next 0000012", "prime  5 next 12",
                    "prime 5  next 12", "prime 5 next  12", " prime 5 next 12", "prime 5 next 12 ", "Prime 5 next 12",
                    "prime 5 Next 12", "prime 5 next 12 1", "prime 5 next -1", "prime -5 next 12", "prime +5 next 12",
                    "prime 5 next 1_2", "prime 5 12", "next 12 prime 5", "prime next 12", "prime a next 12",
                    "prime 5 next a", "lay a lag", "watch 3 b", "sign 1 2", "5 12", "prime 5 next 12.",
                    "prime 99999999999999999999 next 1", "prime 5 next 99999999999999999999"]:
            self.bad(self.rows(0, row), 0)
        self.bad(self.rows(1, "prime 5 next 12", "lay a lag"), 1)
        self.bad(GOOD + "prime 5 next 12\n", 10)
        self.bad("lay a wire\nprime 5 next 12\n", 0)

    def test_lay_rows(self):
        for row in ["lay", "lay ", "lay b", "lay b ", "lay  b use a", "lay b  use a", " lay b use a", "lay b use a ",
                    "Lay b use a", "lay B use a", "lay b1 use a", "lay bbbbbbbbb use a", "lay a use a", "lay b use b",
                    "lay b use none", "lay b use x", "lay b use A", "lay b no", "lay b wire;wire", "lay b wire ;wire",
                    "lay b (wire)", "lay b weigh 03", "lay b weigh 97", "lay b copy 5", "lay b copy 2 ; copy 2",
                    "lay b ring(copy 0)", "lay b mix 1 2 / 3", "lay b shuffle 1 1", "lay b ; ", "lay use a", "lay b lay",
                    "lay b " + " ; ".join(["lag"] * 9), "lay b use a ; " + " ; ".join(["lag"] * 8), "lay b wire\tx",
                    "lay b turned(wire", "lay b wire)", "lay b use a | copy 4 | copy 4 | copy 4", "b use a", "lay: b use a",
                    "lay b use  a", "lay b use"]:
            self.bad(self.rows(2, row), 2)
        # The wiring does not fit its watch any more.
        self.bad(self.rows(2, "lay b copy 2"), 5)
        self.bad(self.rows(2, "lay b weigh 3"), 5)
        self.bad(self.rows(2, "lay b turned(lag)"), 6)
        self.bad(self.rows(2, "lay c wire"), 4)

    def test_places(self):
        self.bad(self.rows(4, "watch 3 b", "lay c wire"), 5)
        self.bad(GOOD + "lay c wire\n", 10)
        self.bad("prime 2 next 2\nlay a wire\nwatch 1 a\nlay b wire\n", 3)
        self.bad(self.rows(4, "sign 1 2"), 4)
        self.bad("prime 5 next 1\nsign\n", 1)
        self.bad("prime 5 next 1\nlay a ring(wire)\nsign\n", 2)
        self.bad("prime 5 next 2\nwatch 1 a\nlay a wire\n", 1)

    def test_names_and_watches(self):
        nine = "prime 2 next 1\n" + "".join(f"lay {name} wire\n" for name in "abcdefghi")
        self.bad(nine, 9)
        self.bad(nine.replace("lay i wire", "lay a wire"), 9)
        seven = "prime 2 next 9\nlay a wire\n" + "".join(f"watch {k} a\n" for k in range(1, 8))
        self.bad(seven, 8)
        self.assertEqual(len(read_page(seven.replace("watch 7 a\n", "")).watches()), 6)
        for row in ["watch", "watch ", "watch 7", "watch 7 ", "watch  7 a", "watch 7  a", " watch 7 a", "watch 7 a ",
                    "watch 07 a", "watch 7 x", "watch 7 A", "watch 3 a", "watch 2 a", "watch 0 a", "watch 12 a", "watch 13 a",
                    "watch 1000000 a", "watch -1 a", "watch a 7", "watch a", "watch 7 a a", "watch 7 a 7", "Watch 7 a",
                    "watch 7a", "watch 7,a", "watch 00000007 a", "watch +7 a", "watch 99999999999999999999 a"]:
            self.bad(self.rows(7, row), 7)
        # Number 11 stands already behind this one.
        self.bad(self.rows(7, "watch 11 a"), 8)
        self.bad("prime 2 next 1\nlay a wire\nwatch 1 a\n", 2)
        self.bad("prime 2 next 9\nlay a wire\nwatch 0 a\n", 2)
        self.bad("prime 2 next 9\nlay a wire\nwatch 1 a\nwatch 1 a\n", 3)
        self.assertEqual(read_page("prime 2 next 999999\nlay a wire\nwatch 999998 a\n").watches(), [(999998, "a")])

    def test_sign_rows(self):
        for row in ["sign", "sign ", "sign 4", "sign 4 ", "sign 4 3 ", " sign 4 3", "sign  4 3", "sign 4  3", "sign 4 3 0",
                    "sign 04 3", "sign 4 03", "sign 4 00", "sign 5 3", "sign 4 8", "sign -1 3", "sign 4 4", "sign 4 2",
                    "sign a 3", "sign 4,3", "Sign 4 3", "sign 4 0000003", "sign 4 1000003", "sign (4 3)", "signs 4 3",
                    "sign 99999999999999999999 3"]:
            self.bad(self.rows(6, row), 6)
        self.assertEqual(read_page(self.rows(6, "sign 0 3")).sheet(3), [(1, 2), (0, 3)])
        self.bad("prime 5 next 2\nlay a ring(wire)\nwatch 1 a\nsign\nsign 0\n", 4)
        self.bad("prime 5 next 2\nlay a ring(wire)\nwatch 1 a\nsign \n", 3)

    def test_other_texts(self):
        for text in ["x", "x\n", "Works(0 wirings, 0 watches, by 2)\n", " \n", "prime 2 next 1 \n", "prime 2 next 1\r\n"]:
            self.bad(text, 0)
        self.bad("prime 2 next 1\nx\n", 1)
        self.bad("prime 2 next 1\n" + "(" * 3900 + "\n", 1)
        self.bad("prime 2 next 1\nlay a " + "(" * 3900 + "\n", 1)
        self.bad("prime 2 next 1\nlay a " + "turned(" * 500 + "\n", 1)
        self.bad("prime 2 next 1\n" + "lay a wire\n" * 300, 2)

    def test_each_sign_else(self):
        """One sign of a good page left out, doubled or made another one: refused, or read and written back so."""
        draw, seen = random.Random("each sign"), [0, 0]
        for at in range(len(GOOD)):
            for text in (GOOD[:at] + GOOD[at + 1:], GOOD[:at + 1] + GOOD[at:], GOOD[:at] + draw.choice(" 0a\n(") + GOOD[at + 1:]):
                try:
                    found = page(read_page(text)) == text
                    self.assertTrue(found, text)
                    seen[0] += 1
                except BadPage as error:
                    self.assertTrue(0 <= error.row <= text.count("\n"))
                    seen[1] += 1
        self.assertGreater(min(seen), 20)


if __name__ == "__main__":
    unittest.main()
