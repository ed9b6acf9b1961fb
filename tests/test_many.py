"""Deeds by their tuples: do, many, trial."""

import copy
import unittest

from lagworks.errors import (BadDeed, BadName, BadSheet, BadWiring, Full, Held, NoWatch, NoWiring, Stopped, Taken,
                             Unshaped, Used)
from lagworks.works import Works
from tests.helper import LAG, WIRE, laid, refuse, refused, stood, then, use

NO_DEEDS = [None, 1, "lay", "", [], ["drop", "a"], {}, {"drop": "a"}, (), ("x",), ("",), ("Lay", "b", WIRE), ("undo",),
            ("redo",), ("trial", []), ("twin",), ("do", ("drop", "a")), ("names",), (1, 2), (None,), (("drop", "a"),),
            ([], "a"), (["drop"], "a"), ({}, "a"), ({"drop": 1}, "a"), ((), "a"), (("lay",), "a", WIRE), ("lay",),
            ("lay", "b"), ("lay", "b", WIRE, WIRE), ("change",), ("change", "a"), ("change", "a", WIRE, 1), ("drop",),
            ("drop", "a", "a"), ("watch",), ("watch", "a", 1), ("feed",), ("feed", 1), ("feed", 1, (0, 0), 1), ("close",),
            ("close", 1, 1), ("many",), ("many", [], []), ("many", 1), ("many", "lay"), ("many", None), ("many", {}),
            ("many", "")]


class Do(unittest.TestCase):
    def test_no_deeds(self):
        works = laid(a=WIRE, c=LAG)
        works.watch("c")
        works.undo()
        before = stood(works)
        for deed in NO_DEEDS:
            refused(self, BadDeed, works.do, deed)
            for deeds in ([deed], (deed,), [("lay", "b", WIRE), ("watch", "b"), deed], [deed, ("drop", "x")],
                          [("many", [("many", (deed,))])]):
                for action in (works.many, works.trial, lambda deeds: works.do(("many", deeds))):
                    refused(self, BadDeed, action, deeds)
            # Behind a refused one the refused one goes first.
            for action in (works.many, works.trial):
                self.assertEqual(refused(self, NoWiring, action, [("drop", "x"), deed]).name, "x")
                refused(self, Taken, action, [("many", []), ("many", [("lay", "a", WIRE), deed]), deed])
        self.assertEqual(stood(works), before)
        self.assertEqual(works.redo(), ("watch", "c"))

    def test_many_of_no_list(self):
        works = Works()
        for deeds in (None, 1, "", "lay", {}, {"lay": 1}, 0):
            for action in (works.many, works.trial):
                refused(self, BadDeed, action, deeds)
        self.assertEqual(works.deeds(), [])

    def test_each_deed(self):
        works = Works(prime=3)
        self.assertIsNone(works.do(deed=("lay", "a", WIRE)))
        self.assertEqual(works.do(("watch", "a")), 1)
        self.assertIsNone(works.do(("feed", 1, (2, 2))))
        self.assertEqual(works.do(("many", [("close", 1), ("watch", "a")])), [None, 2])
        self.assertEqual(works.do(("many", ())), [])
        self.assertIsNone(works.do(("change", "a", LAG)))
        self.assertIsNone(works.do(("close", 2)))
        self.assertIsNone(works.do(("drop", "a")))
        self.assertEqual(len(works.deeds()), 8)


class Many(unittest.TestCase):
    def test_told(self):
        works = Works(prime=5)
        deeds = [("lay", "a", LAG), ("watch", "a"), ("watch", "a"), ("feed", 1, (1, 2)),
                 ("many", (("close", 2), ("watch", "a"), ("many", []))), ("lay", "b", then(use("a"), use("a")))]
        kept = copy.deepcopy(deeds)
        told = works.many(deeds)
        self.assertEqual(told, [None, 1, 2, None, [None, 3, []], None])
        self.assertEqual(deeds, kept)
        self.assertEqual((works.names(), works.watches(), works.sheet(1)), (["a", "b"], [(1, "a"), (3, "a")], [(1, 2)]))
        self.assertEqual(works.deeds(), [("many", (kept[0], kept[1], kept[2], kept[3],
                                                   ("many", (("close", 2), ("watch", "a"), ("many", ()))), kept[5]))])
        told.clear()
        deeds.clear()
        self.assertEqual(len(works.deeds()[0][1]), 6)
        self.assertEqual(works.undo(), ("many", tuple(kept[:4]) + (("many", (("close", 2), ("watch", "a"), ("many", ()))),
                                                                   kept[5])))
        self.assertEqual((len(works), works.coming(), works.watches()), (0, 1, []))
        self.assertEqual(works.redo()[0], "many")
        self.assertEqual((works.coming(), works.watches()), (4, [(1, "a"), (3, "a")]))

    def test_inner_lists_changed_behind(self):
        works = Works()
        inner = [("lay", "a", WIRE)]
        works.many([("many", inner)])
        inner.append(("lay", "b", WIRE))
        inner[0] = ("drop", "a")
        self.assertEqual(works.deeds(), [("many", (("many", (("lay", "a", WIRE),)),))])
        works.undo()
        works.redo()
        self.assertEqual(works.names(), ["a"])

    def test_refused_as_the_first_that_is(self):
        works = laid(a=WIRE, b=use("a"))
        works.watch("a")
        works.feed(1, (1, 1))
        good = [("lay", "c", LAG), ("watch", "c"), ("feed", 2, (3, 3))]
        for deed, kind in [(("lay", "C", WIRE), BadName), (("lay", "c", WIRE), Taken), (("lay", "d", ("no",)), BadWiring),
                           (("lay", "d", use("e")), NoWiring), (("lay", "d", then(("copy", 2), WIRE)), Unshaped),
                           (("change", "a", ("copy", 2)), Held), (("change", "a", ("weigh", 2)), Held),
                           (("drop", "a"), Used), (("drop", "c"), Used), (("watch", "d"), NoWiring),
                           (("feed", 3, (0, 0)), NoWatch), (("feed", 2, (0,)), BadSheet), (("feed", 2, (0, 0)), Stopped),
                           (("close", 3), NoWatch), (("many", [("close", 1), ("close", 1)]), NoWatch)]:
            for deeds in ([*good, deed], [*good, deed, ("drop", "x"), 1], [("many", good), ("many", [deed])]):
                found = refuse(self, works, kind, "many", deeds)
                self.assertEqual(vars(refused(self, kind, works.trial, deeds)), vars(found))
        seven = [("watch", "a")] * 5
        works.many(seven)
        refuse(self, works, Full, "many", [("watch", "a")])
        self.assertEqual(works.many([("close", 1), ("watch", "a")]), [None, 7])

    def test_none_of_them(self):
        works = laid(a=WIRE)
        refuse(self, works, NoWiring, "many", [("watch", "a"), ("drop", "b")])
        self.assertEqual((works.watches(), works.coming(), works.watch("a")), ([], 1, 1))

    def test_one_without_deeds_counts(self):
        works = laid(a=WIRE)
        works.lay("b", WIRE)
        works.undo()
        self.assertEqual(works.many([]), [])
        self.assertEqual(works.deeds()[1:], [("many", ())])
        # It was another deed: nothing can be done again.
        self.assertRaises(LookupError, works.redo)
        self.assertEqual(works.undo(), ("many", ()))
        self.assertEqual(works.names(), ["a"])

    def test_eight_deep(self):
        works = Works()
        deed, told = ("lay", "a", WIRE), None
        for k in range(8):
            deed, told = ("many", [deed] if k % 2 else (deed,)), [told]
        self.assertEqual(works.do(deed), told)
        recorded = ("lay", "a", WIRE)
        for k in range(8):
            recorded = ("many", (recorded,))
        self.assertEqual(works.deeds(), [recorded])
        self.assertEqual((works.undo(), works.redo()), (recorded, recorded))
        wrong = ("drop", "x")
        for k in range(7):
            wrong = ("many", [("many", []), wrong])
        refuse(self, works, NoWiring, "many", [wrong])

    def test_sixty_deeds(self):
        works = laid(a=WIRE)
        self.assertEqual(works.many(deeds=[("watch", "a"), ("close", 1)] + [("lay", "b", WIRE), ("drop", "b")] * 29),
                         [1] + [None] * 59)
        self.assertEqual(works.names(), ["a"])


class Trial(unittest.TestCase):
    def test_leaves_all_as_it_was(self):
        works = laid(a=WIRE)
        works.lay("b", LAG)
        works.undo()
        before, twin = stood(works), works.twin()
        deeds = [("watch", "a"), ("many", [("lay", "c", WIRE)]), ("feed", 1, (1, 1)), ("close", 1), ("watch", "a")]
        for k in range(2):
            self.assertEqual(works.trial(deeds), [1, [None], None, None, 2])
            self.assertEqual(works.trial(()), [])
            self.assertEqual(stood(works), before)
            self.assertEqual(works, twin)
        # What can be done again, too.
        self.assertEqual(works.redo(), ("lay", "b", LAG))
        self.assertEqual(works.many(deeds), twin.trial(deeds))

    def test_books_behind_a_trial(self):
        works = laid(a=WIRE, b=use("a"))
        works.book("b")
        works.trial([("change", "a", LAG), ("watch", "b"), ("feed", 1, (1, 0))])
        self.assertEqual(works.book("b").lags(), 0)
        works.change("a", LAG)
        works.trial([("change", "a", WIRE), ("watch", "b"), ("feed", 1, (1, 1))])
        self.assertEqual(works.book("b").lags(), 1)


if __name__ == "__main__":
    unittest.main()
