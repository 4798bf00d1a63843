"""The names and arguments that the interface tells."""

import inspect
import unittest
from importlib import import_module

ARGUMENTS = {
    "ground": {
        "is_name": "(text)",
        "checked_name": "(text)",
        "checked_number": "(number, low, high)",
    },
    "deal": {
        "shares": "(amount, weights)",
        "poured": "(amount, sizes)",
    },
    "orders": {
        "made": "(name, who, side, price, amount, peak=0)",
        "fresh": "(order, left)",
        "filled": "(order, amount)",
        "renews": "(order, amount)",
        "lessened": "(order, left)",
        "ahead": "(side, price, other)",
        "allows": "(side, limit, price)",
        "other_side": "(side)",
    },
    "line": {
        "joined": "(line, order)",
        "place_of": "(line, name)",
        "without": "(line, name)",
        "with_less": "(line, name, left)",
        "served": "(line, amount)",
        "total": "(line)",
        "view": "(line)",
        "is_line": "(orders, side)",
    },
    "meet": {
        "met": "(order, line, last, leap)",
        "could": "(order, line, last, leap)",
    },
    "kinds": {
        "kind_of": "(word)",
        "entered": "(word, order, line, last, leap)",
    },
    "curve": {
        "wanted": "(buys, price)",
        "offered": "(sells, price)",
        "volume": "(buys, sells, price)",
        "surplus": "(buys, sells, price)",
        "limits": "(buys, sells)",
    },
}

METHODS = {
    "kinds": {
        "Kind": {"lets": "(crosses, amount, wanted)", "keeps": "()"},
        "Limit": {"lets": "(crosses, amount, wanted)", "keeps": "()"},
        "Now": {"lets": "(crosses, amount, wanted)", "keeps": "()"},
        "Whole": {"lets": "(crosses, amount, wanted)", "keeps": "()"},
        "Quiet": {"lets": "(crosses, amount, wanted)", "keeps": "()"},
    },
}


class InterfaceTest(unittest.TestCase):
    def test_each_function_has_its_arguments(self):
        for module, functions in ARGUMENTS.items():
            for name, arguments in functions.items():
                with self.subTest(module=module, name=name):
                    function = getattr(import_module("bellbook." + module), name)
                    self.assertEqual(str(inspect.signature(function)), arguments)

    def test_each_method_has_its_arguments(self):
        for module, classes in METHODS.items():
            for name, methods in classes.items():
                made = getattr(import_module("bellbook." + module), name)()
                for method, arguments in methods.items():
                    with self.subTest(module=module, name=name, method=method):
                        self.assertEqual(str(inspect.signature(getattr(made, method))), arguments)


if __name__ == "__main__":
    unittest.main()
