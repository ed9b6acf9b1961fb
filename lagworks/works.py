"""Works: named wirings and watches, and deeds that can be undone and done again."""

from lagworks.deeds import as_tuples, done
from lagworks.errors import Nothing
from lagworks.numbers import LEAST, check_prime
from lagworks.stands import Stand, book_in, is_same, post_in, watched_in, whole_in, wiring_in
from lagworks.watching import broken_by, ways_behind
from lagworks.wirings import ends_of


class Works:
    """Named wirings and watches of one prime."""

    def __init__(self, *, prime=LEAST):
        check_prime(prime)
        self.stand = Stand(prime)
        # Each deed that can be undone with the stand ahead of it, each that can be done again with the one behind it.
        self.past = []
        self.undone = []

    def prime(self):
        """The prime by which all is reckoned."""
        return self.stand.base

    def do(self, deed):
        """Do one deed by its tuple; what it tells is told."""
        stand, told = done(self.stand, deed)
        self.past.append((as_tuples(deed), self.stand))
        self.stand = stand
        self.undone = []
        return told

    def lay(self, name, wiring):
        """One more wiring."""
        return self.do(("lay", name, wiring))

    def change(self, name, wiring):
        """Another wiring by a name that was laid."""
        return self.do(("change", name, wiring))

    def drop(self, name):
        """One wiring less."""
        return self.do(("drop", name))

    def watch(self, name):
        """One more watch; its number is told."""
        return self.do(("watch", name))

    def feed(self, number, sign):
        """One more sign on the sheet of a watch."""
        return self.do(("feed", number, sign))

    def close(self, number):
        """One watch less."""
        return self.do(("close", number))

    def many(self, deeds):
        """All of these deeds or none; a list of what each tells is told."""
        return self.do(("many", deeds))

    def trial(self, deeds):
        """What many would tell; all is left as it is."""
        return done(self.stand, ("many", deeds))[1]

    def undo(self):
        """The last deed, which is undone."""
        if not self.past:
            raise Nothing("there is no deed to undo")
        deed, stand = self.past.pop()
        self.undone.append((deed, self.stand))
        self.stand = stand
        return deed

    def redo(self):
        """The deed that was undone last, which is done again."""
        if not self.undone:
            raise Nothing("there is no deed to do again")
        deed, stand = self.undone.pop()
        self.past.append((deed, self.stand))
        self.stand = stand
        return deed

    def twin(self):
        """Works that are as these are, and go their own way."""
        found = Works(prime=self.stand.base)
        found.stand = self.stand
        found.past = list(self.past)
        found.undone = list(self.undone)
        return found

    def names(self):
        """The names, by laying."""
        return list(self.stand.laid)

    def wiring(self, name):
        """The wiring of this name, as it was laid."""
        return wiring_in(self.stand, name)

    def whole(self, name):
        """The wiring of this name with what it uses put in its place."""
        return whole_in(self.stand, name)

    def shape(self, name):
        """(left, right) of the wiring of this name."""
        return ends_of(whole_in(self.stand, name))

    def book(self, name):
        """The book of the wiring of this name."""
        return book_in(self.stand, name)

    def watches(self):
        """(number, name) of each watch, by numbers."""
        return [(number, post[0]) for number, post in self.stand.posts.items()]

    def sheet(self, number):
        """The signs that came to a watch."""
        return list(post_in(self.stand, number)[1])

    def may(self, number, sign):
        """Whether a sign may come to a watch."""
        book, sheet = watched_in(self.stand, number)
        return broken_by(book, sheet, sign) is None

    def ways(self, number):
        """How many signs may come to a watch."""
        book, sheet = watched_in(self.stand, number)
        return ways_behind(book, len(sheet))

    def coming(self):
        """The number that the next watch will have."""
        return self.stand.following

    def deeds(self):
        """What can be undone, the eldest first."""
        return [deed for deed, stand in self.past]

    def __len__(self):
        return len(self.stand.laid)

    def __eq__(self, other):
        return isinstance(other, Works) and is_same(self.stand, other.stand)

    def __repr__(self):
        return f"Works({len(self.stand.laid)} wirings, {len(self.stand.posts)} watches, by {self.stand.base})"
