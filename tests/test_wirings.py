"""Wirings: their ends, boxes and lags, and what is refused."""

import inspect
import random
import unittest

from lagworks.errors import BadWiring, Unshaped
from lagworks.wirings import boxes, lags, shape
from tests.helper import (beside, drawn_wiring, nested, plain_boxes, refused, ring, then, too_great_wirings, turned,
                          within_counts, wrong_wirings)

WIRE, LAG = ("wire",), ("lag",)
COPY, SUM = ("copy", 2), ("sum", 2)
ACTIONS = [shape, boxes, lags]


def plain_shape(wiring):
    """(left, right), or None where parts do not fit."""
    word = wiring[0]
    if word in ("turned", "ring"):
        inner = plain_shape(wiring[1])
        if inner is None or (word == "ring" and 0 in inner):
            return None
        return inner[::-1] if word == "turned" else (inner[0] - 1, inner[1] - 1)
    if word in ("then", "beside"):
        inner = [plain_shape(part) for part in wiring[1]]
        if None in inner or (word == "then" and any(one[1] != two[0] for one, two in zip(inner, inner[1:]))):
            return None
        found = (inner[0][0], inner[-1][1]) if word == "then" else tuple(map(sum, zip(*inner)))
        return None if max(found) > 12 else found
    many = wiring[1] if len(wiring) > 1 else 1
    if word == "mix":
        return len(many[0]), len(many)
    if word == "shuffle":
        return len(many), len(many)
    return {"copy": (1, many), "sum": (many, 1)}.get(word, (1, 1))


class Shapes(unittest.TestCase):
    def check(self, wiring, ends, many, late):
        for again in range(2):
            self.assertEqual((shape(wiring), boxes(wiring), lags(wiring)), (ends, many, late), wiring)
        self.assertIs(type(shape(wiring)), tuple)

    def test_boxes(self):
        self.check(WIRE, (1, 1), 1, 0)
        self.check(LAG, (1, 1), 1, 1)
        for number in range(97):
            self.check(("weigh", number), (1, 1), 1, 0)
        for number in range(5):
            self.check(("copy", number), (1, number), 1, 0)
            self.check(("sum", number), (number, 1), 1, 0)
        for left in range(1, 13):
            for right in range(1, 13):
                self.check(("mix", ((96,) * left,) * right), (left, right), 1, 0)
            self.check(("shuffle", tuple(range(left))), (left, left), 1, 0)
            self.check(("shuffle", tuple(range(left))[::-1]), (left, left), 1, 0)

    def test_joined(self):
        self.check(then(COPY, SUM), (1, 1), 2, 0)
        self.check(then(SUM, COPY, ("mix", ((1, 2),) * 3)), (2, 3), 3, 0)
        self.check(then(LAG), (1, 1), 1, 1)
        self.check(beside(COPY, SUM, LAG), (4, 4), 3, 1)
        self.check(beside(COPY), (1, 2), 1, 0)
        self.check(turned(COPY), (2, 1), 1, 0)
        self.check(turned(("mix", ((1, 2, 3),))), (1, 3), 1, 0)
        self.check(ring(COPY), (0, 1), 1, 0)
        self.check(ring(SUM), (1, 0), 1, 0)
        self.check(ring(WIRE), (0, 0), 1, 0)
        self.check(ring(("shuffle", (1, 0, 2))), (2, 2), 1, 0)

    def test_without_ends(self):
        nothing = then(("sum", 0), ("copy", 0))
        self.check(nothing, (0, 0), 2, 0)
        self.check(beside(nothing, nothing), (0, 0), 4, 0)
        self.check(then(nothing, ("sum", 0), ("copy", 0)), (0, 0), 4, 0)
        self.check(turned(("sum", 0)), (1, 0), 1, 0)
        self.check(then(("copy", 0), turned(("copy", 0))), (1, 1), 2, 0)
        self.check(ring(then(("copy", 0), turned(("copy", 0)))), (0, 0), 2, 0)
        self.check(beside(("sum", 0), WIRE), (1, 2), 2, 0)

    def test_nested(self):
        fed_back = ring(then(SUM, LAG, COPY))
        self.check(fed_back, (1, 1), 3, 1)
        self.check(then(fed_back, fed_back, turned(fed_back)), (1, 1), 9, 3)
        self.check(beside(then(COPY, beside(LAG, ("weigh", 3)), SUM), turned(then(COPY, beside(fed_back, WIRE)))),
                   (3, 2), 9, 2)
        self.check(ring(ring(beside(fed_back, fed_back))), (0, 0), 6, 2)

    def test_drawn(self):
        draw = random.Random("shapes")
        answers = []
        for k in range(4000):
            wiring = drawn_wiring(draw, draw.randint(1, 5))
            if within_counts(wiring):
                ends = plain_shape(wiring)
                answers.append(ends is None)
                if ends is None:
                    for action in ACTIONS:
                        refused(self, Unshaped, action, wiring)
                else:
                    self.check(wiring, ends, len(plain_boxes(wiring)), plain_boxes(wiring).count(LAG))
        self.assertGreater(answers.count(True), 300)
        self.assertGreater(answers.count(False), 300)

    def test_at_the_bounds(self):
        for word in ("turned", "then", "beside"):
            self.check(nested(word, 15, WIRE), (1, 1), 1, 0)
            self.check(then(WIRE, nested(word, 14, LAG)), (1, 1), 2, 1)
        twelve = ("shuffle", tuple(range(12)))
        self.check(nested("ring", 11, twelve), (1, 1), 1, 0)
        self.check(nested("ring", 12, twelve), (0, 0), 1, 0)
        five = beside(*[WIRE] * 5)
        self.check(then(*[five] * 12), (5, 5), 60, 0)
        self.check(beside(*[then(*[WIRE] * 5)] * 12), (12, 12), 60, 0)
        self.check(then(*[LAG] * 8), (1, 1), 8, 8)
        self.check(then(beside(*[LAG] * 8), *[beside(*[WIRE] * 8)] * 6), (8, 8), 56, 8)
        self.check(beside(*[WIRE] * 12), (12, 12), 12, 0)
        self.check(beside(*[("copy", 4)] * 3), (3, 12), 3, 0)
        self.check(beside(*[("sum", 4)] * 3), (12, 3), 3, 0)
        self.check(turned(beside(*[("copy", 4)] * 3)), (12, 3), 3, 0)


class BadOnes(unittest.TestCase):
    def test_wrong_ones(self):
        for wiring in wrong_wirings():
            for action in ACTIONS:
                refused(self, BadWiring, action, wiring)

    def test_within_others(self):
        for wrong in wrong_wirings():
            for wiring in [then(wrong), then(WIRE, wrong), then(wrong, WIRE), beside(WIRE, wrong, WIRE), turned(wrong),
                           ring(wrong), ring(then(SUM, beside(LAG, wrong)))]:
                refused(self, BadWiring, shape, wiring)

    def test_a_use(self):
        for name in ("a", "abcdefgh", "wire"):
            use = ("use", name)
            for wiring in [use, then(use), then(WIRE, use), beside(use, WIRE), turned(use), ring(turned(beside(use)))]:
                for action in ACTIONS:
                    refused(self, BadWiring, action, wiring)

    def test_ahead_of_unshaped(self):
        unfit = then(COPY, WIRE)
        for wrong in [("no",), ("copy", 5), ("use", "a"), (), ("then", ()), *too_great_wirings()]:
            for wiring in [then(unfit, wrong), then(wrong, unfit), beside(unfit, wrong), beside(wrong, unfit),
                           then(COPY, WIRE, wrong), then(turned(unfit), turned(wrong)), beside(ring(("copy", 0)), wrong),
                           beside(wrong, ring(("sum", 0))), beside(*[("copy", 4)] * 4, wrong)]:
                for action in ACTIONS:
                    refused(self, BadWiring, action, wiring)
        refused(self, BadWiring, shape, then(COPY, *[LAG] * 9))
        refused(self, BadWiring, shape, beside(*[beside(*[WIRE] * 6)] * 11))
        refused(self, BadWiring, shape, nested("turned", 14, then(COPY, then(WIRE))))


class Unfit(unittest.TestCase):
    def unshaped(self, wiring):
        for around in [wiring, then(wiring), beside(wiring), beside(WIRE, wiring), turned(wiring), ring(wiring),
                       then(wiring, WIRE), ring(turned(beside(LAG, then(wiring)))), then(WIRE, turned(wiring))]:
            for action in ACTIONS:
                refused(self, Unshaped, action, around)

    def test_parts_that_do_not_fit(self):
        for many in range(2, 13):
            for at in range(many):
                for unfit in (beside(WIRE, WIRE), ("mix", ((1, 2), (3, 4)))):
                    self.unshaped(then(*[WIRE] * at, unfit, *[WIRE] * (many - at - 1)))
        for one, other in [(WIRE, SUM), (COPY, WIRE), (COPY, COPY), (SUM, SUM), (("copy", 0), WIRE), (WIRE, ("sum", 0)),
                           (("copy", 3), ("sum", 4)), (("copy", 4), ("sum", 3)), (turned(SUM), ("sum", 3)),
                           (("mix", ((1, 2, 3),)), SUM), (("shuffle", (0, 1)), ("shuffle", (0, 2, 1)))]:
            self.unshaped(then(one, other))

    def test_fitting_by_the_outer_ends_alone(self):
        self.unshaped(then(WIRE, beside(WIRE, WIRE), WIRE))
        self.unshaped(then(COPY, WIRE, SUM))

    def test_rings_without_ends(self):
        for part in [("copy", 0), ("sum", 0), turned(("copy", 0)), turned(("sum", 0)), ring(WIRE), ring(COPY), ring(SUM),
                     then(("sum", 0), ("copy", 0)), beside(("sum", 0), ("sum", 0)), beside(("copy", 0), ("copy", 0)),
                     then(SUM, ("copy", 0))]:
            self.unshaped(ring(part))

    def test_thirteen_ends(self):
        twelve = beside(*[WIRE] * 12)
        self.unshaped(beside(twelve, WIRE))
        self.unshaped(beside(beside(*[WIRE] * 7), beside(*[WIRE] * 6)))
        self.unshaped(beside(*[COPY] * 6, WIRE))
        self.unshaped(beside(*[SUM] * 6, WIRE))
        self.unshaped(beside(("copy", 4), ("copy", 4), ("copy", 4), ("sum", 0)))
        self.unshaped(beside(("mix", ((1,) * 12,)), WIRE))
        self.unshaped(beside(("shuffle", tuple(range(12))), ("sum", 0)))
        self.unshaped(beside(*[beside(*[WIRE] * 4)] * 12))

    def test_thirteen_ends_within(self):
        out = beside(("copy", 4), ("copy", 4), ("copy", 4), WIRE)
        self.unshaped(then(out, turned(out)))
        self.unshaped(then(out, beside(("sum", 4), ("sum", 4), ("sum", 4), WIRE)))
        self.unshaped(ring(beside(*[beside(*[WIRE] * 12), WIRE])))
        self.unshaped(nested("ring", 8, beside(beside(*[WIRE] * 12), ("shuffle", (1, 0)))))
        # More joined on to fewer: none of the parts has more than 12 ends on its own, but the joined one.
        self.unshaped(then(beside(*[("sum", 0)] * 12), beside(*[WIRE] * 12), beside(*[COPY] * 12)))
        self.unshaped(then(beside(*[WIRE] * 12), beside(beside(*[WIRE] * 12), ("sum", 0))))
        self.unshaped(then(("copy", 4), beside(*[("copy", 4)] * 4), beside(*[("sum", 4)] * 4), ("sum", 4)))

    def test_twelve_ends_joined_on(self):
        self.assertEqual(shape(then(("copy", 3), beside(*[("copy", 4)] * 3), beside(*[("sum", 4)] * 3))), (1, 3))


class HandingIn(unittest.TestCase):
    def test_signatures(self):
        for action in ACTIONS:
            self.assertEqual(list(inspect.signature(action).parameters), ["wiring"])
            self.assertEqual(action(wiring=then(COPY, SUM)), action(then(COPY, SUM)))

    def test_refused_again(self):
        for wiring, kind in [(("no",), BadWiring), (then(COPY, WIRE), Unshaped)]:
            for again in range(2):
                for action in ACTIONS:
                    refused(self, kind, action, wiring)
                    self.assertEqual(shape(WIRE), (1, 1))


if __name__ == "__main__":
    unittest.main()
