"""The names, arguments and kinds of values of the interface."""

import importlib
import inspect
import unittest

FUNCTIONS = {
    "numbers": {"is_prime": "(number)", "inverse": "(number, *, prime=2)"},
    "sums": {**{name: "(one, other, *, prime=2)" for name in ("plus", "minus", "times", "split", "common")},
             "sum_text": "(one, *, prime=2)", "read_sum": "(text, *, prime=2)"},
    "tables": {"told": "(rows, width, *, prime=2)", "follows": "(rows, equation, width, *, prime=2)",
               "paper": "(rows, equation, width, *, prime=2)", "without": "(rows, width, gone, *, prime=2)",
               "relations": "(rows, width, *, prime=2)"},
    "wirings": {"shape": "(wiring)", "boxes": "(wiring)", "lags": "(wiring)"},
    "tongue": {"write": "(wiring)", "read": "(text)"},
    "books": {"book_of": "(wiring, *, prime=2)", "within": "(one, other)", "parting": "(one, other)"},
    "choices": {"led": "(book, chosen)", "leads": "(book)"},
    "machines": {"machine": "(book, chosen)", "wired": "(machine)"},
    "freeparts": {"free_part": "(book)", "drawn": "(book)", "swing": "(book)"},
    "pages": {"page": "(works)", "read_page": "(text)"}}

CLASSES = {
    ("books", "Book"): ("(equations=(), *, left=0, right=1, prime=2)", {
        "equations": "", "ends": "", "prime": "", "heights": "", "lags": "", "free": "", "lets": "sheet", "then": "other",
        "beside": "other", "turned": "", "ring": "", "__len__": "", "__eq__": "other", "__repr__": "", "__str__": ""}),
    ("machines", "Machine"): (None, {
        "chosen": "", "book": "", "lags": "", "step": "contents, numbers", "run": "contents, inputs", "start_of": "sheet",
        "__len__": "", "__repr__": ""}),
    ("machines", "Engine"): ("(machine, *, start=None)", {
        "feed": "numbers", "back": "", "contents": "", "signs": "", "twin": "", "__len__": ""}),
    ("watching", "Watch"): ("(book)", {
        "book": "", "sheet": "", "feed": "sign", "may": "sign", "ways": "", "back": "", "twin": "", "__len__": "",
        "__eq__": "other"}),
    ("works", "Works"): ("(*, prime=2)", {
        "prime": "", "lay": "name, wiring", "change": "name, wiring", "drop": "name", "watch": "name",
        "feed": "number, sign", "close": "number", "many": "deeds", "trial": "deeds", "undo": "", "redo": "", "twin": "",
        "do": "deed", "names": "", "wiring": "name", "whole": "name", "shape": "name", "book": "name", "watches": "",
        "sheet": "number", "may": "number, sign", "ways": "number", "coming": "", "deeds": "", "__eq__": "other",
        "__len__": "", "__repr__": ""})}


def part(file):
    return importlib.import_module(f"lagworks.{file}")


class Interface(unittest.TestCase):
    def test_functions(self):
        for file, functions in FUNCTIONS.items():
            for name, told in functions.items():
                found = getattr(part(file), name)
                self.assertTrue(inspect.isfunction(found))
                self.assertEqual((found.__module__, str(inspect.signature(found))), (f"lagworks.{file}", told), name)

    def test_classes(self):
        for (file, name), (told, methods) in CLASSES.items():
            found = getattr(part(file), name)
            self.assertTrue(inspect.isclass(found))
            if told is not None:
                self.assertEqual(str(inspect.signature(found)), told)
            for method, names in methods.items():
                # In the class itself, not only in a base class.
                self.assertIn(method, vars(found), name)
                handed = ", ".join(["self", names] if names else ["self"])
                self.assertEqual(str(inspect.signature(vars(found)[method])), f"({handed})", (name, method))

    def test_values(self):
        self.assertEqual((part("stands").NAMES, part("stands").WATCHES, part("numbers").LEAST), (8, 6, 2))
        self.assertEqual(part("numbers").PRIMES[0], 2)


if __name__ == "__main__":
    unittest.main()
