"""Machines of the fewest lags that run just what a book lets, and engines that run them sign by sign."""

from lagworks.books import width_of
from lagworks.choices import led, others_of
from lagworks.errors import BadStart, Full, Nothing, NotLed
from lagworks.parts import LAG
from lagworks.rows import height
from lagworks.sheets import check_sheet, is_sign

MOST_WIRED = 6


def weighed_sign(row, place, sign):
    """What the residues of an equation at a place make of a sign."""
    return sum([one[place] * number for one, number in zip(row, sign) if place < len(one)])


class Machine:
    """A machine of a book by ends that lead; it never changes.

    For each equation of height h that leads an end, the contents have for k from 1 to h what the equation, begun k
    places ago, has come to so far.
    """

    def __init__(self, of_book, lead_ends, rules):
        self.of_book = of_book
        self.lead_ends = list(lead_ends)
        self.rules = {end: rules[end] for end in rules}
        self.slots = [(end, k) for end in rules for k in range(1, height(rules[end]) + 1)]

    def chosen(self):
        """The chosen ends, rising."""
        return list(self.lead_ends)

    def book(self):
        """The book."""
        return self.of_book

    def lags(self):
        """How many numbers the contents have."""
        return len(self.slots)

    def check_contents(self, contents):
        """Refuse contents that are none of this machine."""
        if not is_sign(contents, len(self.slots), self.of_book.prime()):
            raise BadStart("contents are a tuple of residues, as many as the machine has lags")

    def sign_of(self, held, numbers):
        """The sign that comes; held are the contents by their slots."""
        prime = self.of_book.prime()
        sign = [0] * width_of(self.of_book)
        for end, number in zip(self.lead_ends, numbers):
            sign[end] = number
        # An equation has its greatest degree, among the ends that are led, only at its own and at those ahead of it.
        for end in self.rules:
            top = height(self.rules[end])
            sign[end] = -(held.get((end, top), 0) + weighed_sign(self.rules[end], top, sign)) % prime
        return tuple(sign)

    def stepped(self, contents, numbers):
        """(sign, later contents); nothing is looked at."""
        prime = self.of_book.prime()
        held = {slot: number for slot, number in zip(self.slots, contents)}
        sign = self.sign_of(held, numbers)
        later = [held.get((end, k - 1), 0) + weighed_sign(self.rules[end], k - 1, sign) for end, k in self.slots]
        return sign, tuple([number % prime for number in later])

    def step(self, contents, numbers):
        """(sign, later contents), where the chosen ends have these numbers."""
        self.check_contents(contents)
        check_sheet([numbers], len(self.lead_ends), self.of_book.prime())
        return self.stepped(contents, numbers)

    def run(self, contents, inputs):
        """The signs that come where the chosen ends have these tuples of numbers, one after the other."""
        self.check_contents(contents)
        check_sheet(inputs, len(self.lead_ends), self.of_book.prime())
        found = []
        for numbers in inputs:
            sign, contents = self.stepped(contents, numbers)
            found.append(sign)
        return found

    def start_of(self, sheet):
        """Contents from which the machine tells the sheet; None where it is not let."""
        if not self.of_book.lets(sheet):
            return None
        # Behind the sheet any numbers do: only such are read as no equation makes of others.
        signs = list(sheet) + [(0,) * width_of(self.of_book)] * max([0] + self.of_book.heights())
        found = []
        for end, k in self.slots:
            row = self.rules[end]
            # What the equation came to ahead of the sheet is what its later places, on the sheet, must make up for.
            later = [weighed_sign(row, place, signs[place - k]) for place in range(k, height(row) + 1)]
            found.append(-sum(later) % self.of_book.prime())
        return tuple(found)

    def __len__(self):
        return len(self.slots)

    def __repr__(self):
        return f"Machine({len(self.slots)} lags, {len(self.lead_ends)} chosen)"


def machine(book, chosen):
    """The machine of a book by chosen ends that lead."""
    word, shown = led(book, chosen)
    if word != "led":
        raise NotLed("the chosen ends do not lead", word)
    return Machine(book, chosen, dict(zip(others_of(book, chosen), shown)))


class Engine:
    """A machine that runs sign by sign and goes back."""

    def __init__(self, machine, *, start=None):
        contents = (0,) * machine.lags() if start is None else start
        machine.check_contents(contents)
        self.by_machine = machine
        self.held = contents
        self.past = []

    def feed(self, numbers):
        """The sign that comes where the chosen ends have these numbers."""
        sign, later = self.by_machine.step(self.held, numbers)
        self.past.append((sign, self.held))
        self.held = later
        return sign

    def back(self):
        """The last sign, which is taken back."""
        if not self.past:
            raise Nothing("there is no sign to take back")
        sign, self.held = self.past.pop()
        return sign

    def contents(self):
        """The contents as they are now."""
        return self.held

    def signs(self):
        """The signs that came."""
        return [sign for sign, held in self.past]

    def twin(self):
        """An engine that is as this one is, and goes its own way."""
        found = Engine(self.by_machine, start=self.held)
        found.past = list(self.past)
        return found

    def __len__(self):
        return len(self.past)


def mix_part(rows, many):
    """A part with so many left ends that weighs them by these rows, of which there may be none."""
    if rows and many:
        return "mix", tuple(rows)
    parts = (("sum", 0),) * len(rows) + (("copy", 0),) * many
    return ("beside", parts) if parts else ("then", (("sum", 0), ("copy", 0)))


def residues_at(row, place):
    """The residues of an equation's sums at a place."""
    return tuple([one[place] if place < len(one) else 0 for one in row])


def marks_of(slots, slot):
    """A 1 where the slot stands among all slots."""
    return tuple([1 if other == slot else 0 for other in slots])


def line_mixes(rows, slots, left, prime):
    """(front, back): for each place of each equation how left ends and lags weigh, and how right ends and lags do.

    What an equation has come to at a place, and goes into the lag of the next one, is what it had come to, out of the
    lag of this one, and what the ends add. With the right ends and what goes in on the other side both sides are alike.
    """
    front = []
    back = []
    for at, row in enumerate(rows):
        for place in range(height(row) + 1):
            weights = residues_at(row, place)
            front.append(weights[:left] + marks_of(slots, (at, place)))
            less = tuple([-number % prime for number in weights[left:]])
            back.append(less + marks_of(slots, (at, place + 1)))
    return front, back


def wired(machine):
    """A wiring whose book is the machine's, with as many lags as the machine has."""
    book = machine.book()
    left, right = book.ends()
    many = machine.lags()
    if width_of(book) > MOST_WIRED or many > MOST_WIRED:
        raise Full("only machines of at most 6 ends and 6 lags are wired")
    rows = book.equations()
    slots = [(at, place) for at, row in enumerate(rows) for place in range(1, height(row) + 1)]
    front, back = line_mixes(rows, slots, left, book.prime())
    joined = (mix_part(front, left + many), ("turned", mix_part(back, right + many)))
    if many:
        straight = (("shuffle", tuple(range(right))),) if right else ()
        joined = joined + (("beside", straight + (LAG,) * many),)
    found = ("then", joined)
    for turn in range(many):
        found = ("ring", found)
    return found
