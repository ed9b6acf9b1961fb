"""The told form of a table."""

import copy
import random
import unittest

from lagworks.tables import paper, told
from tests.helper import (added_rows, check_told_form, drawn_row, drawn_sum, drawn_tables, head_and_height, multiplied,
                          multiplied_out, no_row)


def mixed(draw, rows, width, prime):
    """The same table, but for its told form: exchanged, weighed, added to one another, with needless ones put in."""
    found = list(rows)
    for k in range(draw.randint(1, 5)):
        if len(found) > 1:
            one, other = draw.sample(range(len(found)), 2)
            by = drawn_sum(draw, prime, 2)
            longer = added_rows(found[one], multiplied(found[other], by, prime), prime)
            if max(len(one) for one in longer) <= 12:
                found[one] = longer
    found = [multiplied(row, (draw.randrange(1, prime),), prime) for row in found]
    made = multiplied_out([drawn_sum(draw, prime, 2) for row in found], found, width, prime)
    if max(len(one) for one in made) <= 12:
        found.append(made)
    found += [no_row(width)] * draw.randint(0, 2)
    draw.shuffle(found)
    return found


class Form(unittest.TestCase):
    def test_each_point(self):
        for draw, prime, width, rows in drawn_tables("told", 1000):
            check_told_form(self, told(rows, width, prime=prime), width, prime)

    def test_long_sums(self):
        for draw, prime, width, rows in drawn_tables("told of long sums", 150, most=12):
            check_told_form(self, told(rows, width, prime=prime), width, prime)

    def test_told_ones(self):
        cases = [([((1, 1), (1,))], 2, [((1, 1), (1,))]),
                 ([((1,), (1,))], 2, [((1,), (1,))]),
                 ([((1,), ()), ((), (1,))], 2, [((1,), ()), ((), (1,))]),
                 ([((0, 1), (1,)), ((0, 1), ())], 2, [((0, 1), ()), ((), (1,))]),
                 ([((0, 1, 1),), ((1, 0, 1),)], 1, [((1, 1),)]),
                 ([((1, 1),), ((0, 1),)], 1, [((1,),)])]
        for rows, width, found in cases:
            self.assertEqual(told(rows, width), found)
        self.assertEqual(told([((2,), (3, 4))], 2, prime=5), [((3,), (2, 1))])
        # Both have their head at end 1: less z times the second one the first is (-z, 1 - z), and this plus the second
        # one is (1 - z, 3), which is weighed by 4.
        self.assertEqual(told([((), (1, 1, 1)), ((1,), (2, 1))], 2, prime=5), [((4, 1), (2,)), ((1,), (2, 1))])

    def test_head_is_the_last_of_the_greatest(self):
        self.assertEqual(told([((0, 3), (0, 2), (1,))], 3, prime=5), [((0, 4), (0, 1), (3,))])
        self.assertEqual(told([((0, 0, 3), (0, 2), (1,))], 3, prime=5), [((0, 0, 1), (0, 4), (2,))])

    def test_same_follows(self):
        for draw, prime, width, rows in drawn_tables("same follows", 400):
            found = told(rows, width, prime=prime)
            for row in found:
                sums = paper(rows, row, width, prime=prime)
                self.assertEqual(multiplied_out(sums, rows, width, prime), row)
            for row in rows:
                sums = paper(found, row, width, prime=prime)
                self.assertEqual(multiplied_out(sums, found, width, prime), row)

    def test_no_heights_rise(self):
        for draw, prime, width, rows in drawn_tables("heights", 200):
            tops = [head_and_height(row)[1] for row in rows if row != no_row(width)]
            for row in told(rows, width, prime=prime):
                self.assertLessEqual(head_and_height(row)[1], max(tops))


class OneForm(unittest.TestCase):
    def test_mixed(self):
        for draw, prime, width, rows in drawn_tables("mixed", 600):
            found = told(rows, width, prime=prime)
            for k in range(3):
                other = mixed(draw, rows, width, prime)
                self.assertEqual(told(other, width, prime=prime), found, (prime, rows, other))

    def test_told_of_told(self):
        for draw, prime, width, rows in drawn_tables("told of told", 300):
            found = told(rows, width, prime=prime)
            self.assertEqual(told(found, width, prime=prime), found)
            self.assertEqual(told(found[::-1], width, prime=prime), found)

    def test_unlike_tables_are_told_unlike(self):
        for draw, prime, width, rows in drawn_tables("unlike", 200):
            more = drawn_row(draw, prime, width)
            found, longer = told(rows, width, prime=prime), told(rows + [more], width, prime=prime)
            self.assertEqual(found == longer, paper(rows, more, width, prime=prime) is not None)

    def test_no_equations(self):
        for width in range(1, 13):
            for prime in (2, 97):
                self.assertEqual(told([], width, prime=prime), [])
                self.assertEqual(told((), width, prime=prime), [])
                for many in (1, 2, 12):
                    self.assertEqual(told([no_row(width)] * many, width, prime=prime), [])

    def test_alike_equations(self):
        for draw, prime, width, rows in drawn_tables("alike", 100):
            for row in rows:
                self.assertEqual(told([row] * 12, width, prime=prime), told([row], width, prime=prime))


class HandingIn(unittest.TestCase):
    def test_tuples_for_lists(self):
        for draw, prime, width, rows in drawn_tables("tuples", 100):
            found = told(rows, width, prime=prime)
            self.assertEqual(told(tuple(rows), width, prime=prime), found)
            self.assertEqual(told(tuple(found), width, prime=prime), found)

    def test_handed_list_stays(self):
        for draw, prime, width, rows in drawn_tables("stays", 100):
            before = copy.deepcopy(rows)
            found = told(rows, width, prime=prime)
            self.assertEqual(rows, before)
            kept = list(found)
            rows.append(no_row(width))
            rows.reverse()
            self.assertEqual(found, kept)

    def test_told_list_is_a_new_one(self):
        for draw, prime, width, rows in drawn_tables("new ones", 100):
            found = told(rows, width, prime=prime)
            kept = list(found)
            found.append("more")
            found.reverse()
            self.assertEqual(told(rows, width, prime=prime), kept)
            again = told(kept, width, prime=prime)
            self.assertIsNot(again, kept)
            again.clear()
            self.assertEqual(told(kept, width, prime=prime), kept)

    def test_prime_left_out(self):
        for draw, prime, width, rows in drawn_tables("left out", 200):
            if prime == 2:
                self.assertEqual(told(rows, width), told(rows, width, prime=2))


class Great(unittest.TestCase):
    def great_tables(self):
        draw = random.Random("great")
        for prime in (2, 3, 97):
            yield prime, [tuple(tuple(draw.randrange(prime) for k in range(11)) + (1,) for end in range(12))
                          for row in range(12)]
            # Twelve equations that are made of six, and a chain in which each end is bound to the next one.
            six = [tuple(drawn_sum(draw, prime, 6) for end in range(12)) for row in range(6)]
            yield prime, [multiplied_out([drawn_sum(draw, prime, 6) for row in six], six, 12, prime)
                          for row in range(12)]
            yield prime, [tuple((0,) * 11 + (1,) if end == row else (1,) if end == row + 1 else ()
                                for end in range(12)) for row in range(12)]
            yield prime, [((1,) * 12,) * 12] * 12

    def test_come_to_an_end(self):
        for prime, rows in self.great_tables():
            found = told(rows, 12, prime=prime)
            check_told_form(self, found, 12, prime)
            self.assertEqual(told(rows[::-1], 12, prime=prime), found)

    def test_one_end_of_twelve_equations(self):
        draw = random.Random("one end")
        for prime in (2, 5, 97):
            part = (1, 1)
            rows = [(multiplied([drawn_sum(draw, prime, 11) or (1,)], part, prime)[0],) for k in range(12)]
            (found,) = told(rows, 1, prime=prime)
            self.assertEqual(found[0][-1], 1)
            for row in rows:
                self.assertEqual(multiplied_out(paper([found], row, 1, prime=prime), [found], 1, prime), row)


if __name__ == "__main__":
    unittest.main()
