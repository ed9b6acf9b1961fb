"""What told, follows, paper, without and relations refuse, and how they are handed things."""

import copy
import inspect
import unittest

from lagworks.errors import BadEnds, BadPrime, BadTable, BadWidth
from lagworks.tables import follows, paper, relations, told, without
from tests.helper import ALL_PRIMES, NO_PRIMES, drawn_tables, no_row, refused

BIG = 99999999999999999999
NO_WIDTHS = [0, 13, 14, 24, 60, -1, -12, BIG, -BIG, 10 ** 19]
ACTIONS = [told, follows, paper, without, relations]


def ask(action, rows, width, prime, equation=None, gone=()):
    """One of the five, asked of this table; what else it needs is right if it isn't told."""
    if equation is None:
        equation = no_row(width) if 0 <= width <= 60 else ((1,),)
    if action in (follows, paper):
        return action(rows, equation, width, prime=prime)
    if action is without:
        return action(rows, width, gone, prime=prime)
    return action(rows, width, prime=prime)


def wrong_rows(width, prime):
    """Tuples of tuples of numbers that are no equations of this width by this prime."""
    wrong_sums = [(prime,), (1, prime, 1), (BIG,), (1, BIG), (-1,), (1, -1, 1), (-BIG, 1), (1 - prime, 1), (0,), (1, 0),
                  (0,) * 12, (1,) * 11 + (0,), (1,) * 13, (0,) * 12 + (1,), (1,) * 60]
    right = (1,)
    found = [(right,) * (width - 1), (right,) * (width + 1), ((),) * (width + 1), (right,) * 60]
    for wrong in wrong_sums:
        found += [(wrong,) + (right,) * (width - 1), (right,) * (width - 1) + (wrong,), (wrong,) * width]
    return found


class Tables(unittest.TestCase):
    def refused_at(self, at, action, rows, width, prime, equation=None):
        error = refused(self, BadTable, ask, action, rows, width, prime, equation=equation)
        self.assertEqual(error.at, at)
        self.assertIs(type(error.at), int)

    def test_each_wrong_equation(self):
        for prime in (2, 5, 97):
            for width in (1, 2, 4, 12):
                for wrong in wrong_rows(width, prime):
                    for action in ACTIONS:
                        self.refused_at(0, action, [wrong], width, prime)

    def test_its_place(self):
        for prime, width in [(2, 1), (5, 3), (97, 12)]:
            right = ((1,),) * width
            for wrong in wrong_rows(width, prime):
                for at in (1, 5, 11):
                    for action in ACTIONS:
                        self.refused_at(at, action, [right] * at + [wrong] + [right] * (11 - at), width, prime)

    def test_the_first_of_several(self):
        for action in ACTIONS:
            right, wrong, other = ((1,), ()), ((2,), ()), ((1,),)
            self.refused_at(1, action, [right, wrong, right, other], 2, 2)
            self.refused_at(1, action, [right, other, wrong], 2, 2)
            self.refused_at(0, action, [other, wrong, other], 2, 2)
            self.refused_at(1, action, (right, other, wrong), 2, 2)

    def test_thirteen_equations(self):
        for width in (1, 2, 12):
            right, wrong = no_row(width), ((0,),) * width
            for action in ACTIONS:
                ask(action, [right] * 12, width, 2)
                for many in (13, 14, 60):
                    self.refused_at(12, action, [right] * many, width, 2)
                    self.refused_at(12, action, (right,) * many, width, 2)
                self.refused_at(12, action, [right] * 12 + [wrong], width, 2)
                self.refused_at(12, action, [right] * 13 + [wrong], width, 2)
                self.refused_at(11, action, [right] * 11 + [wrong] * 2, width, 2)
                self.refused_at(3, action, [right] * 3 + [wrong] + [right] * 20, width, 2)

    def test_residues_by_every_prime(self):
        for prime in ALL_PRIMES:
            for action in ACTIONS:
                ask(action, [((prime - 1,), (0, prime - 1))], 2, prime)
                self.refused_at(0, action, [((prime,), ())], 2, prime)
                self.refused_at(0, action, [((), (prime, 1))], 2, prime)

    def test_at_the_bounds(self):
        for action in ACTIONS:
            ask(action, [((1,) * 12,) * 12] * 12, 12, 2, equation=((1,) * 12,) * 12, gone=list(range(11)))

    def test_asked_equation(self):
        for action in (follows, paper):
            for prime, width in [(2, 1), (5, 3), (97, 12)]:
                right = ((1,),) * width
                for wrong in wrong_rows(width, prime):
                    for rows in ([], [right], [right] * 12):
                        self.refused_at(0, action, rows, width, prime, equation=wrong)
                    self.refused_at(2, action, [right, right, wrong], width, prime, equation=wrong)
                    self.refused_at(12, action, [right] * 13, width, prime, equation=wrong)


class Widths(unittest.TestCase):
    def test_wrong_ones(self):
        for width in NO_WIDTHS:
            for action in ACTIONS:
                for rows in ([], [((1,),)], [((0,),)] * 13):
                    refused(self, BadWidth, ask, action, rows, width, 2)

    def test_all_right_ones(self):
        for width in range(1, 13):
            for action in ACTIONS:
                ask(action, [((1,),) * width], width, 2)


class Ends(unittest.TestCase):
    def test_wrong_ones(self):
        for width, gone in [(1, [0]), (1, [1]), (1, [-1]), (2, [0, 1]), (2, [1, 0]), (2, [0, 0]), (2, [2]), (2, [-1]),
                            (3, [0, 1, 2]), (3, [0, 2, 1]), (3, [1, 1]), (3, [2, 0]), (3, [0, 3]), (3, [-1, 0]),
                            (3, [BIG]), (3, [-BIG]), (3, [0, BIG]), (3, [-BIG, 1]), (3, [-3]), (4, [0, 1, 1, 2]),
                            (12, list(range(12))), (12, list(range(13))), (12, [12]), (12, list(range(60))),
                            (12, [11, 10]), (12, [0] * 60)]:
            for rows in ([], [((1,),) * width]):
                refused(self, BadEnds, without, rows, width, gone)
                refused(self, BadEnds, without, rows, width, tuple(gone), prime=97)

    def test_right_ones(self):
        for gone in ([], [0], [11], [0, 11], list(range(11)), list(range(1, 12))):
            without([((1,),) * 12], 12, gone)


class Order(unittest.TestCase):
    def test_bad_prime_goes_first(self):
        for prime in NO_PRIMES:
            for width in (1, 0, 13, BIG):
                for rows in ([], [((1,),)], [((0,),)], [()] * 13):
                    for action in ACTIONS:
                        refused(self, BadPrime, ask, action, rows, width, prime, equation=((0,),), gone=[5, 5])

    def test_bad_width_goes_ahead_of_bad_table(self):
        for width in NO_WIDTHS:
            for action in ACTIONS:
                refused(self, BadWidth, ask, action, [((0,),)], width, 2, equation=((0,),), gone=[5, 5])

    def test_bad_table_goes_ahead_of_bad_ends(self):
        for rows in ([((0,), ())], [((1,),)], [no_row(2)] * 13):
            for gone in ([0, 1], [1, 0], [2], [-1]):
                refused(self, BadTable, without, rows, 2, gone)
        refused(self, BadEnds, without, [no_row(2)] * 12, 2, [0, 1])


class HandingIn(unittest.TestCase):
    def test_signatures(self):
        told_ones = [(told, ["rows", "width"]), (follows, ["rows", "equation", "width"]),
                     (paper, ["rows", "equation", "width"]), (without, ["rows", "width", "gone"]),
                     (relations, ["rows", "width"])]
        for action, names in told_ones:
            parameters = inspect.signature(action).parameters
            self.assertEqual(list(parameters), names + ["prime"])
            self.assertEqual(parameters["prime"].kind, inspect.Parameter.KEYWORD_ONLY)
            self.assertEqual(parameters["prime"].default, 2)
            for name in names:
                self.assertEqual(parameters[name].kind, inspect.Parameter.POSITIONAL_OR_KEYWORD)
                self.assertIs(parameters[name].default, inspect.Parameter.empty)

    def test_by_names(self):
        for draw, prime, width, rows in drawn_tables("by names", 50):
            handed = {"rows": rows, "width": width, "prime": prime}
            self.assertEqual(told(**handed), told(rows, width, prime=prime))
            self.assertEqual(relations(**handed), relations(rows, width, prime=prime))
            self.assertEqual(without(gone=[0] * (width > 1), **handed),
                             without(rows, width, [0] * (width > 1), prime=prime))
            for action in (follows, paper):
                self.assertEqual(action(equation=no_row(width), **handed),
                                 action(rows, no_row(width), width, prime=prime))

    def test_prime_by_its_name_alone(self):
        for action, handed in [(told, ([], 1)), (follows, ([], ((),), 1)), (paper, ([], ((),), 1)),
                               (without, ([], 1, [])), (relations, ([], 1))]:
            action(*handed)
            with self.assertRaises(TypeError):
                action(*handed, 2)

    def test_refused_changes_nothing(self):
        for draw, prime, width, rows in drawn_tables("refused", 50):
            rows += [((0,),) * width]
            before = copy.deepcopy(rows)
            for action in ACTIONS:
                refused(self, BadTable, ask, action, rows, width, prime)
                refused(self, BadWidth, ask, action, rows, 13, prime)
                refused(self, BadPrime, ask, action, rows, width, 4)
            self.assertEqual(rows, before)


if __name__ == "__main__":
    unittest.main()
