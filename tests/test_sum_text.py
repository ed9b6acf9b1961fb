"""The texts of lag sums."""

import random
import unittest

from lagworks.errors import BadText
from lagworks.sums import read_sum, sum_text
from tests.helper import all_sums, drawn_pairs, refused

TOLD = [((1, 0, 3), "1 + 3z^2"), ((), "0"), ((1,), "1"), ((2,), "2"), ((0, 1), "z"), ((0, 2), "2z"),
        ((0, 0, 1), "z^2"), ((0, 0, 4), "4z^2"), ((1, 1), "1 + z"), ((1, 1, 1), "1 + z + z^2"),
        ((4, 3, 2, 1), "4 + 3z + 2z^2 + z^3"), ((0,) * 10 + (1,), "z^10"), ((0,) * 11 + (2,), "2z^11"),
        ((0, 1) + (0,) * 9 + (1,), "z + z^11")]

# Each is refused by 5: no sum's text, blanks, order, twice, noughts, 1z, residues, places, signs, line feeds, else.
WRONG = [
    "", " ", "\n", "+", "-", "z^", "^", "^2", "zz", "z2", "z+", " + ", "a", "x", "Z", "1Z", "1 + Z", "one",
    " 1", "1 ", "1  + z", "1 +  z", "1+z", "1 +z", "1+ z", "1 + z ", " 1 + z", "3 z", "3z ^2", "3z^ 2", "1 + + z",
    "1 + ", " + 1", "1 + z + ", "+ z", "z +",
    "z + 1", "z^2 + z", "z^2 + 1", "1 + z^3 + z^2", "z^10 + z^2",
    "1 + 1", "1 + 2", "z + z", "z + 2z", "z^2 + z^2", "1 + z + z", "1 + z + 1",
    "00", "01", "02", "0z", "0z^2", "01z", "02z^3", "0 + z", "1 + 0z", "1 + 0", "0 + 0", "1 + 0z^2 + z^3",
    "z^0", "z^1", "3z^0", "3z^1", "z^02", "z^002", "z^00", "z^01", "z^-1", "z^+2", "000000000000000000001",
    "1z", "1z^2", "1 + 1z", "1 + 1z^2", "1z + z^2",
    "5", "6", "9", "10", "5z", "6z^2", "11z^2", "1 + 5z", "99999999999999999999", "99999999999999999999z",
    "z^12", "z^13", "3z^12", "1 + z^12", "z^99", "z^100", "z^99999999999999999999", "z^111", "z^011",
    "+1", "-1", "+z", "-z", "- z", "1 - z", "1 + -z", "1 + +z", "-0", "+0", "1 - 3z^2", "+1 + z",
    "\n1", "1\n", "1\n + z", "1 + z\n", "1 +\nz", "1\n+\nz", "1 + \nz", "0\n", "\n0", "z\n", "z^\n2", "z^2\n",
    "1 + 3*z^2", "3z**2", "3z2", "z^2z", "z3", "2z3", "zz^2", "z^2^2", "z^z", "z^2 + z^3z", "(1)", "1 + (z)", "1,z",
    "1 | z", "1_0", "z^1_0", "1.", "1.0", "0x1", "1e0", "z_2", "z~2", "z 2", "z+2", "z-2", "2z:3", "1 + 3z~2",
]


class Writing(unittest.TestCase):
    def test_told_ones(self):
        for one, text in TOLD:
            self.assertEqual(sum_text(one, prime=5), text)
            self.assertEqual(read_sum(text, prime=5), one)

    def test_two_figures(self):
        self.assertEqual(sum_text((96, 10, 1, 11), prime=97), "96 + 10z + z^2 + 11z^3")
        self.assertEqual(read_sum("96 + 10z + z^2 + 11z^3", prime=97), (96, 10, 1, 11))

    def test_all_twelve_places(self):
        self.assertEqual(sum_text((2,) * 12, prime=3),
                         "2 + 2z + 2z^2 + 2z^3 + 2z^4 + 2z^5 + 2z^6 + 2z^7 + 2z^8 + 2z^9 + 2z^10 + 2z^11")

    def test_every_residue(self):
        for residue in range(2, 97):
            self.assertEqual(sum_text((residue, residue, residue), prime=97),
                             f"{residue} + {residue}z + {residue}z^2")
        self.assertEqual(sum_text((1, 1, 1), prime=97), "1 + z + z^2")


class Reading(unittest.TestCase):
    def test_back(self):
        for prime, one, other in drawn_pairs("texts", 2000):
            for told in (one, other):
                found = read_sum(sum_text(told, prime=prime), prime=prime)
                self.assertIs(type(found), tuple)
                self.assertEqual(found, told)

    def test_back_all_small_ones(self):
        for prime, most in [(2, 9), (3, 6), (5, 4)]:
            sums = all_sums(prime, most)
            texts = [sum_text(one, prime=prime) for one in sums]
            self.assertEqual(len(set(texts)), len(sums))
            self.assertEqual([read_sum(text, prime=prime) for text in texts], sums)

    def test_wrong_ones(self):
        for text in WRONG:
            refused(self, BadText, read_sum, text, prime=5)

    def test_residue_not_below_the_prime(self):
        for prime in [2, 3, 5, 97]:
            for residue in [prime, prime + 1, 2 * prime, 100, 101]:
                for text in ["{}", "{}z", "1 + {}z^2", "{} + z", "z + {}z^11"]:
                    refused(self, BadText, read_sum, text.format(residue), prime=prime)

    def test_places(self):
        for place in range(2, 12):
            self.assertEqual(read_sum(f"z^{place}"), (0,) * place + (1,))
        for place in [0, 1, *range(12, 130), 10 ** 19]:
            refused(self, BadText, read_sum, f"z^{place}")
            refused(self, BadText, read_sum, f"1 + z^{place}")

    def test_long_texts(self):
        for text in ["1" * 4000, "1" * 5000, "z^" + "1" * 3998, "z^" + "1" * 5000, "0" * 4000, " " * 4000, "z" * 4000,
                     "\n" * 4000, " + ".join(["z"] * 1000), " + ".join(["1"] * 1000), "~" * 4000, "1" + " + z" * 900]:
            refused(self, BadText, read_sum, text)
            refused(self, BadText, read_sum, text, prime=97)

    def test_one_sign_off(self):
        """A text that one sign was put in, taken out or exchanged is read only where it is some sum's own text."""
        draw = random.Random("one sign off")
        own = {sum_text(one, prime=3): one for one in all_sums(3, 5)}
        signs = "0123 +z^\n-*5"
        for text in draw.sample(sorted(own), 60):
            for at in range(len(text) + 1):
                for sign in signs:
                    self.check(own, text[:at] + sign + text[at:])
                    self.check(own, text[:at] + sign + text[at + 1:])
                self.check(own, text[:at] + text[at + 1:])

    def check(self, own, text):
        try:
            found = read_sum(text, prime=3)
        except BadText:
            self.assertNotIn(text, own)
        else:
            self.assertEqual(sum_text(found, prime=3), text)
            self.assertTrue(text in own or len(found) > 5, text)

    def test_short_texts(self):
        """Of all texts of at most four of these signs just those are read that some sum has."""
        own = {sum_text(one, prime=3) for one in all_sums(3, 7)}
        texts = [""]
        for k in range(4):
            texts.extend([text + sign for text in texts for sign in "012z^ +\n5" if len(text) == k])
        read = []
        for text in texts:
            try:
                read.append(sum_text(read_sum(text, prime=3), prime=3))
            except BadText:
                continue
            self.assertEqual(read[-1], text)
        fit = {text for text in own if len(text) <= 4 and all(sign in "012z^ +\n5" for sign in text)}
        fit |= {front + place for front in ("", "2") for place in ("z^5", "z^10", "z^11")}
        self.assertEqual(set(read), {text for text in fit if len(text) <= 4})


if __name__ == "__main__":
    unittest.main()
