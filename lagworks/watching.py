"""Watches: they are fed signs, and their sheet is always let."""

from lagworks.books import width_of
from lagworks.errors import Nothing, Stopped
from lagworks.rows import height, reading
from lagworks.sheets import check_sheet


def broken_by(book, sheet, sign):
    """The first told equation that the let sheet breaks with this sign behind it, or None; a bad sign is refused."""
    check_sheet([sign], width_of(book), book.prime())
    longer = list(sheet) + [sign]
    for row in book.equations():
        # All that ends ahead of the last place is kept already.
        start = len(sheet) - height(row)
        if start >= 0 and reading(row, longer, start, book.prime()) != 0:
            return row
    return None


def check_sign(book, sheet, sign):
    """Refuse a sign that may not come behind a let sheet."""
    row = broken_by(book, sheet, sign)
    if row is not None:
        raise Stopped("the longer sheet would not be let", row)


def ways_behind(book, places):
    """How many signs may come behind a let sheet of so many places."""
    found = 1
    for turn in range(width_of(book) - len([top for top in book.heights() if top <= places])):
        found *= book.prime()
    return found


class Watch:
    """A sheet that grows sign by sign."""

    def __init__(self, book):
        self.of_book = book
        self.fed = []

    def book(self):
        """The book that lets the sheet."""
        return self.of_book

    def sheet(self):
        """The signs that came."""
        return list(self.fed)

    def feed(self, sign):
        """Let a sign come."""
        check_sign(self.of_book, self.fed, sign)
        self.fed.append(sign)

    def may(self, sign):
        """Whether a sign may come."""
        return broken_by(self.of_book, self.fed, sign) is None

    def ways(self):
        """How many signs may come."""
        return ways_behind(self.of_book, len(self.fed))

    def back(self):
        """The last sign, which is taken back."""
        if not self.fed:
            raise Nothing("there is no sign to take back")
        return self.fed.pop()

    def twin(self):
        """A watch that is as this one is, and goes its own way."""
        found = Watch(self.of_book)
        found.fed = list(self.fed)
        return found

    def __len__(self):
        return len(self.fed)

    def __eq__(self, other):
        return isinstance(other, Watch) and self.of_book == other.of_book and self.fed == other.fed
