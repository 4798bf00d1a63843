"""The names and arguments that the interface tells."""

import inspect
import unittest
from importlib import import_module

ARGUMENTS = {
    "ground": {
        "is_name": "(text)",
        "checked_name": "(text)",
        "checked_number": "(number, low, high)",
    },
    "deal": {
        "shares": "(amount, weights)",
        "poured": "(amount, sizes)",
    },
    "orders": {
        "made": "(name, who, side, price, amount, peak=0)",
        "fresh": "(order, left)",
        "filled": "(order, amount)",
        "renews": "(order, amount)",
        "lessened": "(order, left)",
        "ahead": "(side, price, other)",
        "allows": "(side, limit, price)",
        "other_side": "(side)",
    },
}


class InterfaceTest(unittest.TestCase):
    def test_each_function_has_its_arguments(self):
        for module, functions in ARGUMENTS.items():
            for name, arguments in functions.items():
                with self.subTest(module=module, name=name):
                    function = getattr(import_module("bellbook." + module), name)
                    self.assertEqual(str(inspect.signature(function)), arguments)


if __name__ == "__main__":
    unittest.main()
