"""What follows from a table, and the papers that show it."""

import copy
import itertools
import random
import unittest

from lagworks.tables import follows, paper, told
from tests.helper import (added_rows, all_sums, drawn_row, drawn_sum, drawn_tables, is_lag_sum, multiplied_out, no_row)


def let_beginnings(rows, width, places, further):
    """All sheets by 2 of so many places that can go on for some further places and keep the table there."""
    sheets = [()]
    for place in range(places + further):
        sheets = [sheet + (sign,) for sheet in sheets for sign in itertools.product(range(2), repeat=width)]
        sheets = [sheet for sheet in sheets if all(kept_at_the_end(row, sheet) for row in rows)]
    return {sheet[:places] for sheet in sheets}


def kept(row, sheet, at):
    """Whether a sheet by 2 keeps an equation at a place."""
    return sum(sheet[at + later][end] * residue for end, one in enumerate(row)
               for later, residue in enumerate(one)) % 2 == 0


def kept_at_the_end(row, sheet):
    """Whether a sheet keeps an equation at the last place where the whole equation stands within the sheet."""
    at = len(sheet) - max(len(one) for one in row)
    return at < 0 or row == no_row(len(row)) or kept(row, sheet, at)


class AgainstStrands(unittest.TestCase):
    def check(self, rows, width, asked, further):
        sheets = let_beginnings(rows, width, 3, further)
        for equation in asked:
            true = all(kept(equation, sheet, 0) for sheet in sheets)
            self.assertIs(follows(rows, equation, width), true, (rows, equation))
            self.assertEqual(paper(rows, equation, width) is not None, true, (rows, equation))

    def test_one_end(self):
        asked = [(one,) for one in all_sums(2, 3)]
        for many in range(4):
            for rows in itertools.combinations(asked, many):
                self.check(list(rows), 1, asked, 4)

    def test_two_ends(self):
        draw = random.Random("strands")
        asked = [(one, other) for one in all_sums(2, 3) for other in all_sums(2, 3)]
        for k in range(40):
            rows = [(draw.choice(all_sums(2, 3)), draw.choice(all_sums(2, 3))) for row in range(draw.randint(1, 3))]
            self.check(rows, 2, asked, 4)

    def test_told_form_lets_the_same(self):
        draw = random.Random("same strands")
        for k in range(60):
            rows = [(draw.choice(all_sums(2, 3)), draw.choice(all_sums(2, 3))) for row in range(draw.randint(0, 3))]
            # A told form is let on at once: no further places are needed.
            self.assertEqual(let_beginnings(rows, 2, 3, 4), let_beginnings(told(rows, 2), 2, 3, 0), rows)


class Papers(unittest.TestCase):
    def check(self, rows, equation, width, prime):
        sums = paper(rows, equation, width, prime=prime)
        self.assertIs(follows(rows, equation, width, prime=prime), sums is not None)
        if sums is not None:
            self.assertIs(type(sums), list)
            self.assertEqual(len(sums), len(rows))
            self.assertTrue(all(is_lag_sum(one, prime) for one in sums), sums)
            self.assertEqual(multiplied_out(sums, rows, width, prime), equation)
        return sums is not None

    def test_made_ones_follow(self):
        for draw, prime, width, rows in drawn_tables("made ones", 600):
            equation = multiplied_out([drawn_sum(draw, prime, 4) for row in rows], rows, width, prime)
            self.assertTrue(self.check(rows, equation, width, prime), (prime, rows, equation))

    def test_drawn_ones(self):
        answers = [self.check(rows, drawn_row(draw, prime, width), width, prime)
                   for draw, prime, width, rows in drawn_tables("drawn ones", 800)]
        self.assertGreater(answers.count(True), 50)
        self.assertGreater(answers.count(False), 50)

    def test_none_follows_that_adds_to_the_told_form(self):
        for draw, prime, width, rows in drawn_tables("adds", 200):
            equation = drawn_row(draw, prime, width)
            same = told(rows + [equation], width, prime=prime) == told(rows, width, prime=prime)
            self.assertEqual(self.check(rows, equation, width, prime), same)

    def test_beside_a_told_one(self):
        for draw, prime, width, rows in drawn_tables("beside", 200):
            for row in told(rows, width, prime=prime):
                self.assertTrue(self.check(rows, row, width, prime))
                # What differs from it by another equation follows just where that one does.
                for end in range(width):
                    unit = tuple((1,) if other == end else () for other in range(width))
                    other = added_rows(row, unit, prime)
                    self.assertEqual(self.check(rows, other, width, prime), self.check(rows, unit, width, prime))

    def test_nought_follows_from_every_table(self):
        for draw, prime, width, rows in drawn_tables("nought follows", 200):
            self.assertTrue(self.check(rows, no_row(width), width, prime))
        for width in range(1, 13):
            self.assertEqual(paper([], no_row(width), width), [])
            self.assertIs(follows([], no_row(width), width), True)
            self.assertTrue(self.check([no_row(width)] * 12, no_row(width), width, 5))

    def test_none_follows_from_no_equations(self):
        for draw, prime, width, rows in drawn_tables("nothing follows", 100):
            for row in rows:
                if row != no_row(width):
                    for table in ([], (), [no_row(width)] * 3):
                        self.assertIs(follows(table, row, width, prime=prime), False)
                        self.assertIsNone(paper(table, row, width, prime=prime))

    def test_told_ones(self):
        self.assertIs(follows([((1, 1),)], ((1, 0, 1),), 1), True)
        self.assertEqual(paper([((1, 1),)], ((1, 0, 1),), 1), [(1, 1)])
        self.assertIs(follows([((1, 0, 1),)], ((1, 1),), 1), False)
        self.assertIsNone(paper([((1, 0, 1),)], ((1, 1),), 1))
        self.assertEqual(paper([((2,), (1,))], ((1,), (3,)), 2, prime=5), [(3,)])
        self.assertIsNone(paper([((2,), (1,))], ((1,), (2,)), 2, prime=5))

    def test_great_ones(self):
        draw = random.Random("great papers")
        for prime in (2, 97):
            for many in (6, 11, 12):
                rows = [tuple(drawn_sum(draw, prime, 12) for end in range(12)) for row in range(many)]
                for row in told(rows, 12, prime=prime)[:2]:
                    self.assertTrue(self.check(rows, row, 12, prime))
                self.check(rows, tuple(drawn_sum(draw, prime, 12) for end in range(12)), 12, prime)
            rows = [tuple(drawn_sum(draw, prime, 12) for end in range(6)) for row in range(12)]
            self.check(rows, tuple(drawn_sum(draw, prime, 12) for end in range(6)), 6, prime)


class HandingIn(unittest.TestCase):
    def test_tuples_for_lists_and_again(self):
        for draw, prime, width, rows in drawn_tables("tuples follow", 150):
            equation = multiplied_out([drawn_sum(draw, prime, 3) for row in rows], rows, width, prime)
            for asked in (equation, drawn_row(draw, prime, width)):
                before = copy.deepcopy(rows)
                told_one, sums = follows(rows, asked, width, prime=prime), paper(rows, asked, width, prime=prime)
                self.assertEqual(rows, before)
                for table in (tuple(rows), list(rows)):
                    self.assertIs(follows(table, asked, width, prime=prime), told_one)
                    self.assertEqual(paper(table, asked, width, prime=prime), sums)
                if sums:
                    kept_ones = list(sums)
                    sums[0] = "changed"
                    self.assertEqual(paper(rows, asked, width, prime=prime), kept_ones)


if __name__ == "__main__":
    unittest.main()
