"""Tables without some of their ends, and relations between equations."""

import copy
import random
import unittest

from lagworks.tables import follows, relations, told, without
from tests.helper import (added_rows, check_told_form, drawn_row, drawn_sum, drawn_tables, multiplied, multiplied_out,
                          no_row)


def drawn_ends(draw, width):
    """Some ends, rising, not all."""
    return sorted(draw.sample(range(width), draw.randint(0, width - 1)))


def put_in(row, gone, width):
    """The equation with noughts put in at the gone ends."""
    rest = list(row)
    return tuple(() if end in gone else rest.pop(0) for end in range(width))


def taken_out(row, gone):
    return tuple(one for end, one in enumerate(row) if end not in gone)


class Without(unittest.TestCase):
    def test_each_point(self):
        for draw, prime, width, rows in drawn_tables("without", 600):
            gone = drawn_ends(draw, width)
            check_told_form(self, without(rows, width, gone, prime=prime), width - len(gone), prime)

    def test_told_ones_follow(self):
        checked = 0
        for draw, prime, width, rows in drawn_tables("told ones follow", 500, most=3):
            gone = drawn_ends(draw, width)
            for row in without(rows, width, gone, prime=prime):
                self.assertLessEqual(max(len(one) for one in row), 12)
                self.assertIs(follows(rows, put_in(row, gone, width), width, prime=prime), True)
                checked += bool(gone)
        self.assertGreater(checked, 100)

    def test_made_ones_are_told(self):
        for draw, prime, width, rows in drawn_tables("made ones are told", 500, most=3):
            gone = drawn_ends(draw, width)
            made = [put_in(taken_out(drawn_row(draw, prime, width, 3), gone), gone, width) for k in range(2)]
            # Hidden among the others: each made one stands there only with a multiple of another one added.
            hidden = list(rows)
            for row in made:
                more = multiplied_out([drawn_sum(draw, prime, 2) for other in rows], rows, width, prime)
                hidden.append(added_rows(row, more, prime))
            draw.shuffle(hidden)
            found = without(hidden, width, gone, prime=prime)
            for row in made:
                short = taken_out(row, gone)
                self.assertEqual(told(found + [short], width - len(gone), prime=prime), found)

    def test_all_that_follow_are_told(self):
        """Multiples of the equations that happen to be nought there, by all small sums, follow from what is told."""
        for draw, prime, width, rows in drawn_tables("all that follow", 300, most=2):
            if width > 1 and len(rows) > 1:
                gone = [draw.randrange(width)]
                one, other = rows[0], rows[1]
                # Crosswise multiplied the two are alike at the gone end.
                cross = added_rows(multiplied(one, other[gone[0]], prime),
                                   multiplied(other, tuple(-n % prime for n in one[gone[0]]), prime), prime)
                self.assertEqual(cross[gone[0]], ())
                found = without(rows, width, gone, prime=prime)
                self.assertIs(follows(found, taken_out(cross, gone), width - 1, prime=prime), True)

    def test_one_after_the_other(self):
        for draw, prime, width, rows in drawn_tables("one after the other", 400, most=3):
            gone = drawn_ends(draw, width)
            found, wide, left = rows, width, list(gone)
            while left:
                at = draw.randrange(len(left))
                end = left.pop(at)
                found = without(found, wide, [end], prime=prime)
                left = [other - (other > end) for other in left]
                wide -= 1
            self.assertEqual(told(found, wide, prime=prime), without(rows, width, gone, prime=prime))

    def test_no_end_taken_out(self):
        for draw, prime, width, rows in drawn_tables("no end", 200):
            self.assertEqual(without(rows, width, [], prime=prime), told(rows, width, prime=prime))
            self.assertEqual(without(rows, width, (), prime=prime), told(rows, width, prime=prime))

    def test_told_ones(self):
        # A wire and a wire: what is between them goes.
        self.assertEqual(without([((1,), (1,), ()), ((), (1,), (1,))], 3, [1]), [((1,), (1,))])
        # What is copied to an end that is free says nothing.
        self.assertEqual(without([((1,), (4,), ()), ((1,), (), (4,))], 3, [0], prime=5), [((4,), (1,))])
        self.assertEqual(without([((1,), (4,))], 2, [0], prime=5), [])
        # Two lags, one behind the other, are a lag by two places.
        self.assertEqual(without([((1,), (0, 4), ()), ((), (1,), (0, 4))], 3, [1], prime=5), [((4,), (0, 0, 1))])
        self.assertEqual(without([], 3, [0, 2]), [])
        self.assertEqual(without([no_row(3)], 3, [0, 2]), [])

    def test_handing_in(self):
        for draw, prime, width, rows in drawn_tables("without again", 150):
            gone = drawn_ends(draw, width)
            before = copy.deepcopy((rows, gone))
            found = without(rows, width, gone, prime=prime)
            self.assertEqual((rows, gone), before)
            kept = list(found)
            for table, ends in [(tuple(rows), gone), (rows, tuple(gone)), (tuple(rows), tuple(gone))]:
                self.assertEqual(without(table, width, ends, prime=prime), kept)
            found.append("more")
            gone.append(77)
            self.assertEqual(without(rows, width, before[1], prime=prime), kept)

    def test_great_ones(self):
        draw = random.Random("great without")
        for prime in (2, 97):
            rows = [tuple(drawn_sum(draw, prime, 12) for end in range(12)) for row in range(12)]
            for gone in ([0], [3, 4, 7, 8, 9, 11], list(range(11))):
                check_told_form(self, without(rows, 12, gone, prime=prime), 12 - len(gone), prime)
        # Each end bound to the next one by 11 lags: the first and the last one are by 121 lags.
        chain = [tuple((1,) if end == row else (0,) * 11 + (96,) if end == row + 1 else () for end in range(12))
                 for row in range(11)]
        self.assertEqual(without(chain, 12, list(range(1, 11)), prime=97), [((96,), (0,) * 121 + (1,))])


class Relations(unittest.TestCase):
    def test_each_point(self):
        for draw, prime, width, rows in drawn_tables("relations", 500):
            found = relations(rows, width, prime=prime)
            check_told_form(self, found, len(rows), prime)
            for sums in found:
                self.assertEqual(multiplied_out(sums, rows, width, prime), no_row(width))
            self.assertEqual(len(found), len(rows) - len(told(rows, width, prime=prime)))

    def test_made_ones_follow(self):
        for draw, prime, width, rows in drawn_tables("made relations", 400, most=3):
            sums = [drawn_sum(draw, prime, 3) for row in rows]
            more = rows + [multiplied_out(sums, rows, width, prime)]
            made = tuple(sums) + ((prime - 1,),)
            found = relations(more, width, prime=prime)
            self.assertIs(follows(found, made, len(more), prime=prime), True)
            longer = multiplied(made, (1, 1), prime)
            self.assertIs(follows(found, longer, len(more), prime=prime), True)

    def test_two_of_one_end(self):
        """Two sums are each multiplied by the other one less what both have in common."""
        for draw, prime, width, rows in drawn_tables("of one end", 200, most=3):
            one, other = drawn_sum(draw, prime, 3) or (1,), drawn_sum(draw, prime, 3) or (1,)
            made = (other, tuple(-n % prime for n in one))
            found = relations([(one,), (other,)], 1, prime=prime)
            self.assertEqual(len(found), 1)
            self.assertIs(follows(found, made, 2, prime=prime), True)
        self.assertEqual(relations([((0, 1),), ((0, 1, 1),)], 1), [((1, 1), (1,))])
        self.assertEqual(relations([((1,), (2,)), ((2,), (4,))], 2, prime=5), [((3,), (1,))])

    def test_none_of_a_told_form(self):
        for draw, prime, width, rows in drawn_tables("told relations", 200):
            self.assertEqual(relations(told(rows, width, prime=prime), width, prime=prime), [])

    def test_noughts(self):
        for width in range(1, 13):
            self.assertEqual(relations([], width), [])
            for many in (1, 2, 12):
                units = [tuple((1,) if end == row else () for end in range(many)) for row in range(many)]
                self.assertEqual(relations([no_row(width)] * many, width, prime=5), units)

    def test_handing_in(self):
        for draw, prime, width, rows in drawn_tables("relations again", 150):
            before = copy.deepcopy(rows)
            found = relations(rows, width, prime=prime)
            self.assertEqual(rows, before)
            kept = list(found)
            found.append("more")
            self.assertEqual(relations(tuple(rows), width, prime=prime), kept)
            self.assertEqual(relations(rows, width, prime=prime), kept)

    def test_great_ones(self):
        draw = random.Random("great relations")
        for prime in (2, 97):
            for width in (1, 2, 6, 11, 12):
                rows = [tuple(drawn_sum(draw, prime, 12) for end in range(width)) for row in range(12)]
                found = relations(rows, width, prime=prime)
                check_told_form(self, found, 12, prime)
                self.assertEqual(len(found), 12 - len(told(rows, width, prime=prime)))
                for sums in found:
                    self.assertEqual(multiplied_out(sums, rows, width, prime), no_row(width))


if __name__ == "__main__":
    unittest.main()
