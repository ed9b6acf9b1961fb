"""Works walked through drawn deeds beside a plain model of [18] to [20]."""

import random
import re
import unittest

from lagworks.books import book_of
from lagworks.errors import BadWiring, LagError, Unshaped, WorksError
from lagworks.pages import page, read_page
from lagworks.tongue import write
from lagworks.wirings import shape
from lagworks.works import Works
from tests.helper import LAG, WIRE, beside, plain_boxes, ring, then, turned, use

PIECES = [WIRE, LAG, ("weigh", 2), ("copy", 2), ("sum", 2), ("copy", 0), turned(LAG), then(LAG, LAG), beside(WIRE, WIRE),
          then(*[LAG] * 4), ring(then(("sum", 2), ("copy", 2), beside(WIRE, LAG))), ("no",), then(*[LAG] * 9)]


class Refused(Exception):
    """A refusal of the model: the error's word and its field."""


def put(wiring, names):
    """A wiring with what it uses put in."""
    if wiring[0] == "use":
        return put(names[wiring[1]], names)
    if wiring[0] in ("then", "beside"):
        return wiring[0], tuple(put(part, names) for part in wiring[1])
    return (wiring[0], put(wiring[1], names)) if wiring[0] in ("turned", "ring") else wiring


def check(wiring, ahead):
    """The refusals of a wiring behind these names, in their order."""
    try:
        write(wiring)
    except BadWiring:
        raise Refused("BadWiring", None) from None
    for box in plain_boxes(wiring):
        if box[0] == "use" and box[1] not in ahead:
            raise Refused("NoWiring", box[1])
    try:
        shape(put(wiring, ahead))
    except (BadWiring, Unshaped) as error:
        raise Refused(error.word, None) from None


class Model:
    """(names, watches, coming), remade by each deed."""

    def __init__(self, prime):
        self.prime, self.state = prime, ({}, {}, 1)
        self.books = {}

    def book(self, names, name):
        text = write(put(names[name], names))
        if text not in self.books:
            self.books[text] = book_of(put(names[name], names), prime=self.prime)
        return self.books[text]

    def do(self, state, deed):
        return getattr(self, deed[0])(state, *deed[1:])

    def lay(self, state, name, wiring):
        names, watches, coming = state
        if not re.fullmatch("[a-z]{1,8}", name):
            raise Refused("BadName", None)
        if name in names:
            raise Refused("Taken", None)
        check(wiring, names)
        if len(names) == 8:
            raise Refused("Full", None)
        return ({**names, name: wiring}, watches, coming), None

    def change(self, state, name, wiring):
        names, watches, coming = state
        if name not in names:
            raise Refused("NoWiring", name)
        order = list(names)
        at = order.index(name)
        check(wiring, {other: names[other] for other in order[:at]})
        names = {**names, name: wiring}
        for later in order[at + 1:]:
            try:
                shape(put(names[later], names))
            except LagError:
                raise Refused("Held", later) from None
        for number in sorted(watches):
            watched, sheet = watches[number]
            if sheet:
                book = self.book(names, watched)
                if len(sheet[0]) != sum(book.ends()) or not book.lets(sheet):
                    raise Refused("Held", number)
        return (names, watches, coming), None

    def drop(self, state, name):
        names, watches, coming = state
        if name not in names:
            raise Refused("NoWiring", name)
        for other in names:
            if use(name) in plain_boxes(names[other]):
                raise Refused("Used", other)
        for number in sorted(watches):
            if watches[number][0] == name:
                raise Refused("Used", number)
        return ({other: names[other] for other in names if other != name}, watches, coming), None

    def watch(self, state, name):
        names, watches, coming = state
        if name not in names:
            raise Refused("NoWiring", name)
        if len(watches) == 6:
            raise Refused("Full", None)
        return (names, {**watches, coming: (name, [])}, coming + 1), coming

    def feed(self, state, number, sign):
        names, watches, coming = state
        if number not in watches:
            raise Refused("NoWatch", number)
        name, sheet = watches[number]
        book = self.book(names, name)
        if len(sign) != sum(book.ends()) or not all(0 <= n < self.prime for n in sign):
            raise Refused("BadSheet", 0)
        if not book.lets(sheet + [sign]):
            raise Refused("Stopped", None)
        return (names, {**watches, number: (name, sheet + [sign])}, coming), None

    def close(self, state, number):
        names, watches, coming = state
        if number not in watches:
            raise Refused("NoWatch", number)
        return (names, {k: watches[k] for k in watches if k != number}, coming), None

    def many(self, state, deeds):
        told = []
        for deed in deeds:
            state, answer = self.do(state, deed)
            told.append(answer)
        return state, told


def drawn_wiring(draw, names):
    """A small wiring, often with uses."""
    pool = PIECES + [use(name) for name in names] * 3 + [use("x")]
    way = draw.randint(0, 5)
    if way < 2:
        return draw.choice(pool)
    if way == 2:
        return turned(draw.choice(pool))
    return draw.choice([then, then, beside])(draw.choice(pool), draw.choice(pool))


def drawn_deed(draw, model, state, deep=2):
    """A deed that often can be done."""
    names, watches, coming = state
    name = draw.choice([*list(names) * 3, "a", "b", "X"])
    number = draw.choice([*list(watches) * 4, 1, coming, 0])
    word = draw.choice(["lay"] * 3 + ["change"] * 3 + ["drop", "watch", "watch", "close"] + ["feed"] * 6 + ["many"] * 2)
    if word == "lay":
        return word, draw.choice([*"abcdefghij", "A", name]), drawn_wiring(draw, names)
    if word == "change":
        return word, name, drawn_wiring(draw, names)
    if word in ("drop", "watch"):
        return word, name
    if word == "close":
        return word, number
    if word == "feed":
        width = sum(model.book(names, watches[number][0]).ends()) if number in watches else 2
        sign = tuple(draw.choice([0, 0, 1, draw.randrange(model.prime)]) for end in range(width))
        return word, number, sign if draw.random() < 0.95 else sign + (model.prime,)
    many = []
    for k in range(draw.choice([0, 1, 2, 3])):
        deed = drawn_deed(draw, model, state, deep - 1) if deep else ("watch", name)
        many.append(deed)
        try:
            state, told = model.do(state, deed)
        except Refused:
            if draw.random() < 0.8:
                many.pop()
    return word, draw.choice([list, tuple])(many)


def as_tuples(deed):
    return ("many", tuple(as_tuples(one) for one in deed[1])) if deed[0] == "many" else deed


class Walks(unittest.TestCase):
    def compare(self, works, model, state):
        names, watches, coming = state
        self.assertEqual(works.names(), list(names))
        self.assertEqual([works.wiring(name) for name in names], list(names.values()))
        self.assertEqual([works.whole(name) for name in names], [put(names[name], names) for name in names])
        self.assertEqual(works.watches(), [(number, watches[number][0]) for number in sorted(watches)])
        self.assertEqual([works.sheet(number) for number in watches], [sheet for name, sheet in watches.values()])
        self.assertEqual((works.coming(), len(works)), (coming, len(names)))

    def ask(self, works, model, state, draw):
        """Questions that take longer."""
        names, watches, coming = state
        for name in names:
            self.assertEqual(works.shape(name), shape(put(names[name], names)))
            self.assertEqual(works.book(name), model.book(names, name))
        for number, (name, sheet) in watches.items():
            book = model.book(names, name)
            bound = sum(height <= len(sheet) for height in book.heights())
            self.assertEqual(works.ways(number), model.prime ** (sum(book.ends()) - bound))
            sign = tuple(draw.randrange(model.prime) for end in range(sum(book.ends())))
            self.assertIs(works.may(number, sign), book.lets(sheet + [sign]))
        again = read_page(page(works))
        self.assertEqual(again, works)

    def walk(self, seed, seen):
        draw = random.Random(seed)
        works = Works(prime=draw.choice([2, 3, 5]))
        model = Model(works.prime())
        past, undone, state = [], [], model.state
        for turn in range(120):
            way = draw.random()
            if way < 0.08 and past:
                deed, before = past.pop()
                self.assertEqual(works.undo(), deed)
                undone.append((deed, state))
                state = before
            elif way < 0.14 and undone:
                deed, behind = undone.pop()
                self.assertEqual(works.redo(), deed)
                past.append((deed, state))
                state = behind
            else:
                deed = drawn_deed(draw, model, state)
                trial = way > 0.9 and deed[0] == "many"
                try:
                    behind, told = model.do(state, deed)
                except Refused as error:
                    word, field = error.args
                    with self.assertRaises((LagError, WorksError)) as caught:
                        works.trial(deed[1]) if trial else works.do(deed)
                    self.assertEqual(caught.exception.word, word, deed)
                    if field is not None:
                        self.assertIn(field, [v for k, v in vars(caught.exception).items() if k != "word"], deed)
                    seen[word] = seen.get(word, 0) + 1
                else:
                    self.assertEqual(works.trial(deed[1]) if trial else works.do(deed), told, deed)
                    seen[deed[0]] = seen.get(deed[0], 0) + 1
                    if not trial:
                        past.append((as_tuples(deed), state))
                        state, undone = behind, []
            self.compare(works, model, state)
            self.assertEqual(works.deeds(), [deed for deed, before in past])
            if turn % 10 == 0:
                self.ask(works, model, state, draw)

    def test_walks(self):
        seen = {}
        for seed in range(60):
            self.walk(f"walk {seed}", seen)
        for word in ("BadName Taken BadWiring NoWiring Unshaped Held Used NoWatch BadSheet Stopped lay change drop watch feed "
                     "close many").split():
            self.assertGreater(seen.get(word, 0), 15, seen)


if __name__ == "__main__":
    unittest.main()
