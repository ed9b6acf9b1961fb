"""The error classes: where they stand, and their fields."""

import unittest

from lagworks import errors
from lagworks.numbers import inverse
from lagworks.sums import plus, read_sum

LAG = {"BadPrime": None, "BadNumber": None, "BadSum": None, "BadTable": "at", "BadWidth": None, "BadEnds": None,
       "BadText": None, "BadWiring": None, "Unshaped": None, "BadSheet": "at", "BadStart": None, "BadName": None,
       "BadDeed": None, "BadPage": "row", "NotLed": "why", "Unlike": None}
WORKS = {"NoWiring": "name", "NoWatch": "number", "Taken": None, "Full": None, "Used": "by", "Held": "by",
         "Stopped": "equation", "Nothing": None}
FIELDS = {"at": 3, "row": 0, "why": "loose", "name": "abc", "number": 7, "by": 2, "equation": ((1,), ())}


def made(word):
    """An error of this class, as the package makes it."""
    kind = getattr(errors, word)
    field = (LAG | WORKS)[word]
    return kind("message") if field is None else kind("message", FIELDS[field])


class Classes(unittest.TestCase):
    def test_bases(self):
        self.assertEqual(errors.LagError.__bases__, (ValueError,))
        self.assertEqual(errors.WorksError.__bases__, (LookupError,))
        for word in LAG:
            self.assertEqual(getattr(errors, word).__bases__, (errors.LagError,), word)
        for word in WORKS:
            self.assertEqual(getattr(errors, word).__bases__, (errors.WorksError,), word)

    def test_names(self):
        for word in [*LAG, *WORKS, "LagError", "WorksError"]:
            self.assertEqual(getattr(errors, word).__name__, word)

    def test_none_under_another(self):
        kinds = [getattr(errors, word) for word in [*LAG, *WORKS]]
        self.assertEqual(len(set(kinds)), 24)
        for one in kinds:
            for other in kinds:
                self.assertEqual(issubclass(one, other), one is other)

    def test_word(self):
        for word in [*LAG, *WORKS]:
            self.assertEqual(made(word).word, word)
        self.assertEqual(errors.LagError("message").word, "LagError")
        self.assertEqual(errors.WorksError("message").word, "WorksError")

    def test_further_fields(self):
        for word, field in (LAG | WORKS).items():
            if field is not None:
                self.assertEqual(getattr(made(word), field), FIELDS[field])


class Raised(unittest.TestCase):
    """The words stand on the errors that really come, too, and their base classes catch them."""

    def test_raised(self):
        cases = [("BadPrime", lambda: inverse(1, prime=4)), ("BadNumber", lambda: inverse(0)),
                 ("BadSum", lambda: plus((0,), ())), ("BadText", lambda: read_sum(""))]
        for word, action in cases:
            for base in (errors.LagError, ValueError):
                with self.assertRaises(base) as caught:
                    action()
                self.assertIs(type(caught.exception), getattr(errors, word))
                self.assertEqual(caught.exception.word, word)


if __name__ == "__main__":
    unittest.main()
