"""Wirings as texts, there and back."""

import inspect
import itertools
import random
import unittest

from lagworks.errors import BadText, BadWiring
from lagworks.tongue import read, write
from tests.helper import (WORDS, beside, drawn_wiring, nested, refused, ring, then, turned, within_counts,
                          wrong_wirings)

WIRE, LAG, USE = ("wire",), ("lag",), ("use", "abc")


FORMS = [
    (WIRE, "wire"), (LAG, "lag"), (("weigh", 3), "weigh 3"), (("weigh", 0), "weigh 0"), (("weigh", 96), "weigh 96"),
    (("copy", 2), "copy 2"), (("copy", 0), "copy 0"), (("copy", 4), "copy 4"), (("sum", 0), "sum 0"),
    (("sum", 4), "sum 4"), (("mix", ((1, 0), (2, 5))), "mix 1 0 / 2 5"), (("mix", ((7,),)), "mix 7"),
    (("mix", ((1, 0, 96),)), "mix 1 0 96"), (("mix", ((0,), (10,), (96,))), "mix 0 / 10 / 96"),
    (("shuffle", (1, 0)), "shuffle 1 0"), (("shuffle", (0,)), "shuffle 0"),
    (("shuffle", (11, 10, 9, 8, 7, 6, 5, 4, 3, 2, 1, 0)), "shuffle 11 10 9 8 7 6 5 4 3 2 1 0"),
    (USE, "use abc"), (("use", "z"), "use z"), (("use", "abcdefgh"), "use abcdefgh"), (("use", "wire"), "use wire"),
    (("use", "then"), "use then"), (("use", "use"), "use use"),
    (then(WIRE, LAG), "wire ; lag"), (beside(WIRE, LAG), "wire | lag"),
    (then(WIRE, LAG, USE), "wire ; lag ; use abc"), (beside(WIRE, LAG, USE), "wire | lag | use abc"),
    (then(WIRE), "then(wire)"), (beside(WIRE), "beside(wire)"), (turned(LAG), "turned(lag)"), (ring(LAG), "ring(lag)"),
    (then(("mix", ((1, 2), (3, 4))), ("shuffle", (1, 0)), ("sum", 2)), "mix 1 2 / 3 4 ; shuffle 1 0 ; sum 2"),
    (beside(("mix", ((1, 2), (3, 4))), ("copy", 2)), "mix 1 2 / 3 4 | copy 2"),
    # Thens and besides within one another.
    (then(then(WIRE, LAG), WIRE), "(wire ; lag) ; wire"), (then(WIRE, then(LAG, WIRE)), "wire ; (lag ; wire)"),
    (then(WIRE, then(LAG, WIRE), LAG), "wire ; (lag ; wire) ; lag"),
    (then(beside(WIRE, LAG), WIRE), "wire | lag ; wire"), (then(WIRE, beside(LAG, WIRE)), "wire ; lag | wire"),
    (then(beside(WIRE, LAG), beside(LAG, WIRE)), "wire | lag ; lag | wire"),
    (beside(then(WIRE, LAG), WIRE), "(wire ; lag) | wire"), (beside(WIRE, then(LAG, WIRE)), "wire | (lag ; wire)"),
    (beside(beside(WIRE, LAG), WIRE), "(wire | lag) | wire"), (beside(WIRE, beside(LAG, WIRE)), "wire | (lag | wire)"),
    (beside(then(beside(WIRE, LAG), LAG), WIRE), "(wire | lag ; lag) | wire"),
    (then(beside(then(WIRE, LAG), LAG), WIRE), "(wire ; lag) | lag ; wire"),
    (then(then(then(WIRE, LAG), LAG), LAG), "((wire ; lag) ; lag) ; lag"),
    (beside(beside(beside(WIRE, LAG), LAG), LAG), "((wire | lag) | lag) | lag"),
    # Those of one part within those of several, and the other way round.
    (then(then(WIRE), LAG), "then(wire) ; lag"), (then(LAG, beside(WIRE)), "lag ; beside(wire)"),
    (beside(then(WIRE), LAG), "then(wire) | lag"), (beside(LAG, beside(WIRE)), "lag | beside(wire)"),
    (then(then(WIRE, LAG)), "then(wire ; lag)"), (then(beside(WIRE, LAG)), "then(wire | lag)"),
    (beside(then(WIRE, LAG)), "beside(wire ; lag)"), (beside(beside(WIRE, LAG)), "beside(wire | lag)"),
    (then(then(WIRE)), "then(then(wire))"), (beside(then(beside(WIRE))), "beside(then(beside(wire)))"),
    (then(turned(WIRE)), "then(turned(wire))"), (beside(ring(WIRE)), "beside(ring(wire))"),
    # Straight within the brackets of turned and ring nothing stands in brackets.
    (turned(then(WIRE, LAG)), "turned(wire ; lag)"), (ring(then(WIRE, LAG)), "ring(wire ; lag)"),
    (turned(beside(WIRE, LAG)), "turned(wire | lag)"), (ring(beside(WIRE, LAG)), "ring(wire | lag)"),
    (turned(then(WIRE)), "turned(then(wire))"), (ring(beside(WIRE)), "ring(beside(wire))"),
    (turned(ring(turned(WIRE))), "turned(ring(turned(wire)))"),
    (turned(then(then(WIRE, LAG), LAG)), "turned((wire ; lag) ; lag)"),
    (then(turned(then(WIRE, LAG)), ring(LAG)), "turned(wire ; lag) ; ring(lag)"),
    (beside(turned(WIRE), ring(beside(LAG, LAG))), "turned(wire) | ring(lag | lag)"),
    (ring(then(("sum", 2), LAG, ("copy", 2))), "ring(sum 2 ; lag ; copy 2)"),
    # What does not fit is written and read, too.
    (then(("copy", 3), ("sum", 2)), "copy 3 ; sum 2"), (ring(("sum", 0)), "ring(sum 0)"),
    (beside(*[("copy", 4)] * 12), " | ".join(["copy 4"] * 12)), (then(*[USE] * 12), " ; ".join(["use abc"] * 12)),
]


def plain_text(wiring, around=""):
    """The text of a wiring within a joining word."""
    word = wiring[0]
    if word in ("turned", "ring"):
        return word + "(" + plain_text(wiring[1]) + ")"
    if word in ("then", "beside"):
        if len(wiring[1]) == 1:
            return word + "(" + plain_text(wiring[1][0]) + ")"
        text = {"then": " ; ", "beside": " | "}[word].join(plain_text(part, word) for part in wiring[1])
        return "(" + text + ")" if (word, around) in [("then", "then"), ("then", "beside"),
                                                      ("beside", "beside")] else text
    if word == "mix":
        return "mix " + " / ".join(" ".join(map(str, row)) for row in wiring[1])
    if word == "shuffle":
        return "shuffle " + " ".join(map(str, wiring[1]))
    return " ".join(map(str, wiring))


def drawn_ones(seed, many, deep=5):
    draw = random.Random(seed)
    for k in range(many):
        wiring = drawn_wiring(draw, draw.randint(1, deep), WORDS + ["use"])
        if within_counts(wiring):
            yield draw, wiring


class Both(unittest.TestCase):
    def check(self, wiring, text):
        self.assertEqual(write(wiring), text)
        self.assertEqual(read(text), wiring)
        self.assertEqual((write(wiring), read(text)), (text, wiring))

    def test_forms(self):
        for wiring, text in FORMS:
            self.check(wiring, text)
            self.assertEqual(plain_text(wiring), text)

    def test_joined_forms(self):
        """Each form within each way of joining."""
        for wiring, text in FORMS:
            for word in ("turned", "ring"):
                self.check((word, wiring), f"{word}({text})")
            for word in ("then", "beside"):
                self.check((word, (wiring,)), f"{word}({text})")
            loose = wiring[0] in ("then", "beside") and len(wiring[1]) > 1
            within = f"({text})" if loose and wiring[0] == "then" else text
            self.check(then(WIRE, wiring, LAG), f"wire ; {within} ; lag")
            self.check(then(wiring, wiring), f"{within} ; {within}")
            within = f"({text})" if loose else text
            self.check(beside(WIRE, wiring, LAG), f"wire | {within} | lag")
            self.check(beside(wiring, wiring), f"{within} | {within}")

    def test_drawn(self):
        for draw, wiring in drawn_ones("texts", 3000):
            self.check(wiring, plain_text(wiring))

    def test_unlike_wirings_have_unlike_texts(self):
        found = {}
        for draw, wiring in drawn_ones("unlike texts", 3000, 4):
            self.assertEqual(found.setdefault(write(wiring), wiring), wiring)

    def test_kinds(self):
        for wiring, text in FORMS:
            self.assertIs(type(write(wiring)), str)
            waiting = [read(text)]
            while waiting:
                thing = waiting.pop()
                self.assertIn(type(thing), (tuple, str, int))
                waiting += thing if type(thing) is tuple else ()

    def test_at_the_bounds(self):
        for word in ("turned", "ring", "then", "beside"):
            self.check(nested(word, 15, LAG), f"{word}(" * 15 + "lag" + ")" * 15)
        deep = WIRE
        for k in range(15):
            deep = then(deep, LAG if k < 8 else WIRE)
        self.check(deep, "(" * 14 + "wire ; lag)" + " ; lag)" * 7 + " ; wire)" * 6 + " ; wire")
        sixty = then(*[beside(*[("use", "a")] * 5)] * 12)
        self.check(sixty, " ; ".join([" | ".join(["use a"] * 5)] * 12))
        self.check(then(*[LAG] * 8), " ; ".join(["lag"] * 8))
        great = then(*[("mix", ((96,) * 12,) * 12)] * 12)
        self.assertGreater(len(write(great)), 4000)
        self.check(great, plain_text(great))

    def test_by_names(self):
        self.assertEqual(list(inspect.signature(write).parameters), ["wiring"])
        self.assertEqual(list(inspect.signature(read).parameters), ["text"])
        self.assertEqual(read(text=write(wiring=then(WIRE, USE))), then(WIRE, USE))


class Writing(unittest.TestCase):
    def test_wrong_ones(self):
        for wrong in wrong_wirings():
            refused(self, BadWiring, write, wrong)

    def test_wrong_ones_within(self):
        for wrong in wrong_wirings():
            for wiring in [then(wrong), then(USE, wrong), beside(wrong, WIRE), turned(wrong), ring(beside(LAG, wrong))]:
                refused(self, BadWiring, write, wiring)

    def test_uses_are_boxes(self):
        refused(self, BadWiring, write, then(*[beside(*[USE] * 5)] * 11, beside(*[USE] * 6)))
        refused(self, BadWiring, write, nested("turned", 16, USE))
        self.assertEqual(write(nested("turned", 15, USE)), "turned(" * 15 + "use abc" + ")" * 15)


class Reading(unittest.TestCase):
    def test_wrong_ones(self):
        texts = ["", " ", "\n", "  ", ";", "|", " ; ", " | ", "/", "(", ")", "()", ")(", "0", "1", "-", "wires", "Wire",
                 "WIRE", "wir", "lags", "delay", "no", "x", "weight 3", "wire 0", "wire 1", "lag 1", "wire lag", "wire\n",
                 "\nwire", "wire ;\nlag", "wire\n; lag", "weigh\n3", "weigh", "weigh ", "weigh x", "weigh 97", "weigh -1",
                 "weigh 03", "weigh 00", "weigh +3", "weigh 3.0", "weigh 3 4", "weigh  3", "weigh 100", "weigh3",
                 "weigh 99999999999999999999", "weigh -99999999999999999999", "weigh 0x3", "weigh 1_0", "copy", "copy 5",
                 "copy -1", "copy 02", "copy two", "copy 2 2", "copy 99999999999999999999", "sum", "sum 5", "sum -1",
                 "sum 00", "sum 1 1", "sum(2)", "copy(2)", "weigh(3)", "mix", "mix ", "mix /", "mix 1 /", "mix / 1",
                 "mix 1 0 / 2", "mix 1 / 2 0", "mix 1 / / 2", "mix 1 0/2 5", "mix 1 0 /2 5", "mix 1 0/ 2 5",
                 "mix 1 0  / 2 5", "mix 1, 0", "mix 97", "mix -1", "mix 01", "mix 1 0 / 2 05", "mix 1 0 / 2 97", "mix a",
                 "mix(1)", "mix (1 0) / (2 5)", "mix 1 0 // 2 5", "mix 1 0 | 2 5", "mix 1 0 ; 2 5", "shuffle",
                 "shuffle ", "shuffle 1", "shuffle 0 0", "shuffle 0 2", "shuffle 1 2", "shuffle -1 0", "shuffle 0, 1",
                 "shuffle 00", "shuffle 1 00", "shuffle 0 1 / 1 0", "shuffle 0 99999999999999999999", "shuffle a",
                 "use", "use ", "use A", "use abcdefghi", "use a b", "use a1", "use 1", "use a-b", "use\na", "use a\n",
                 "use  a", "use(a)", "use ;", "use (", "use )", "use /", "use -", "abc", "use abc use abc", "3"]
        texts += ["mix " + " / ".join(["1"] * 13), "mix " + " ".join(["1"] * 13),
                  "shuffle " + " ".join(map(str, range(13))), "weigh " + "9" * 3994, "weigh " + "0" * 3994]
        for text in texts:
            for around in ["{}", "wire ; {}", "{} | wire", "turned({})", "then({})", "(wire ; {}) | lag"]:
                if around == "{}" or ";" not in text and "|" not in text:
                    refused(self, BadText, read, around.format(text))

    def test_wrong_joining(self):
        for text in ["wire;lag", "wire ;lag", "wire; lag", "wire  ; lag", "wire ;  lag", "wire ; ", " ; wire", "wire ;",
                     "; wire", "wire ; ; lag", "wire ;; lag", "wire|lag", "wire |lag", "wire| lag", "wire || lag",
                     "wire | | lag", "wire | ", " | wire", "wire | ; lag", "wire ; | lag", "wire, lag", "wire & lag",
                     " wire", "wire ", " wire ; lag", "wire ; lag ", "wire\t; lag", "wire / lag", "wire + lag"]:
            refused(self, BadText, read, text)

    def test_wrong_brackets(self):
        for text in ["(wire)", "((wire))", "(wire ; lag)", "(wire | lag)", "(wire", "wire)", "((wire ; lag) ; lag",
                     "(wire ; lag)) ; lag", "((wire ; lag)) ; lag", "(wire) ; lag", "wire ; (lag)", "(wire | lag) ; lag",
                     "wire ; (lag | lag)", "(turned(wire)) ; lag", "wire | (ring(lag))", "(then(wire)) ; wire",
                     "(beside(wire)) | wire", "wire ; lag)", "(wire ; lag", "( wire ; lag) ; lag", "(wire ; lag ) ; lag",
                     "(wire ; lag); lag", "() ; lag", "wire ; ()", "[wire ; lag] ; lag", "{wire ; lag} ; lag",
                     "turned", "ring", "then", "beside", "turned()", "ring()", "then()", "beside()", "turned(", "turned)",
                     "turned(wire", "turned wire", "turned (wire)", "turned( wire)", "turned(wire )", "turned((wire))",
                     "turned((wire ; lag))", "ring((wire | lag))", "then((wire ; lag))", "beside((wire | lag))",
                     "turned(wire))", "turned(wire)(lag)", "turned(wire) lag", "turned(wire, lag)", "wire(lag)",
                     "lag turned(wire)", "turned ring(wire)", "turned(wire)turned(wire)", "Turned(wire)", "turn(wire)",
                     "rings(wire)", "(wire ; lag)(wire ; lag)", "wire (lag)", "turned()wire", "(wire ; lag) wire",
                     "turned 1", "then 1", "ring 0 1", "beside wire", "turned\n(wire)", "turned(wire\n)",
                     "turned(\nwire)", "use a(wire)", "then(wire) ; ", "then(wire ; )", "weigh (3)", "weigh 3 (wire)"]:
            refused(self, BadText, read, text)

    def test_too_great(self):
        for word in ("turned", "ring", "then", "beside"):
            for many in (16, 17, 50, 500):
                refused(self, BadText, read, f"{word}(" * many + "wire" + ")" * many)
        refused(self, BadText, read, "(" * 15 + "wire ; wire)" + " ; wire)" * 14 + " ; wire")
        refused(self, BadText, read, " ; ".join([" | ".join(["wire"] * 5)] * 11 + [" | ".join(["wire"] * 6)]))
        refused(self, BadText, read, " ; ".join(["lag"] * 9))
        refused(self, BadText, read, "ring(" + " | ".join(["lag"] * 8) + ") ; lag")
        for between in (" ; ", " | "):
            for many in (13, 14, 60, 571):
                refused(self, BadText, read, between.join(["wire"] * many))

    def test_long_texts(self):
        for text in ["(" * 4000, ")" * 4000, "()" * 2000, "(" * 2000 + ")" * 2000, "turned(" * 571, "ring(" * 800,
                     "then(" * 800, "beside(" * 571, "turned(" * 500 + "wire" + ")" * 496, ";" * 4000, " " * 4000,
                     " ; " * 1333, "| " * 2000, "\n" * 4000, "a" * 4000, "0" * 4000, "9" * 4000, "use " + "a" * 3996,
                     "mix " + "1 / " * 999, "shuffle " + "0 " * 1996, "wire" + " " * 3996, "(" * 3996 + "wire",
                     "(wire ; " * 500, "wire ; (" * 500]:
            refused(self, BadText, read, text)

    def test_changed_at_one_sign(self):
        """A text with one sign more, less or another one is read just where it is the text of what is read."""
        draw = random.Random("changed signs")
        signs = " \n()|;/0179wal"
        for wiring, text in draw.sample(FORMS, 25):
            if len(text) < 30:
                for at in range(len(text) + 1):
                    for sign in signs:
                        self.check(text[:at] + sign + text[at:])
                        self.check(text[:at] + sign + text[at + 1:])
                    self.check(text[:at] + text[at + 1:])

    def check(self, text):
        try:
            found = read(text)
        except BadText:
            return False
        self.assertEqual(plain_text(found), text)
        return True

    def test_all_short_texts(self):
        """Of all texts of at most six of these words just those are read that some wiring has."""
        small = [WIRE]
        for k in range(4):
            more = [(word, part) for word in ("turned", "ring") for part in small]
            more += [(word, parts) for word in ("then", "beside") for many in (1, 2, 3)
                     for parts in itertools.product(small[:40], repeat=many)]
            small += [wiring for wiring in more if self.words(plain_text(wiring)) <= 6 and wiring not in small]
        own = {plain_text(wiring) for wiring in small}
        read_ones = set()
        words = ["wire", "turned", "ring", "then", "beside", "(", ")", " ; ", " | "]
        for many in range(1, 7):
            for picked in itertools.product(words, repeat=many):
                # Where brackets, or words, do not come out even, all else is tried elsewhere.
                if picked.count("(") == picked.count(")") and "wire" in picked:
                    text = "".join(picked)
                    if self.check(text):
                        read_ones.add(text)
        self.assertEqual(read_ones, own)

    def words(self, text):
        return len(text.replace("(", " ( ").replace(")", " ) ").split())


if __name__ == "__main__":
    unittest.main()
