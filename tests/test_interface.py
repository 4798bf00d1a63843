"""The names and arguments that the interface tells."""

import inspect
import unittest
from importlib import import_module

ARGUMENTS = {
    "ground": {
        "is_name": "(text)",
        "checked_name": "(text)",
        "checked_number": "(number, low, high)",
    },
    "deal": {
        "shares": "(amount, weights)",
        "poured": "(amount, sizes)",
    },
    "orders": {
        "made": "(name, who, side, price, amount, peak=0)",
        "fresh": "(order, left)",
        "filled": "(order, amount)",
        "renews": "(order, amount)",
        "lessened": "(order, left)",
        "ahead": "(side, price, other)",
        "allows": "(side, limit, price)",
        "other_side": "(side)",
    },
    "line": {
        "joined": "(line, order)",
        "place_of": "(line, name)",
        "without": "(line, name)",
        "with_less": "(line, name, left)",
        "served": "(line, amount)",
        "total": "(line)",
        "view": "(line)",
        "is_line": "(orders, side)",
    },
    "meet": {
        "met": "(order, line, last, leap)",
        "could": "(order, line, last, leap)",
    },
    "kinds": {
        "kind_of": "(word)",
        "entered": "(word, order, line, last, leap)",
    },
    "curve": {
        "wanted": "(buys, price)",
        "offered": "(sells, price)",
        "volume": "(buys, sells, price)",
        "surplus": "(buys, sells, price)",
        "limits": "(buys, sells)",
    },
    "call": {
        "call_price": "(buys, sells, near)",
        "called": "(buys, sells, near)",
    },
    "phases": {
        "phase_of": "(word)",
    },
    "floor": {
        "Floor": "(mark, leap)",
    },
    "need": {
        "widest": "(hold, buys, sells)",
        "slip": "(buys, sells, mark)",
        "need": "(hold, buys, sells, mark, rate, fee)",
        "worth": "(coins, owed, rows)",
        "free": "(coins, owed, rows)",
    },
    "purse": {
        "Purse": "()",
    },
    "dues": {
        "owed": "(book, debtor, creditor, amount)",
        "net_of": "(book, who)",
        "nets": "(book)",
        "transfers": "(nets)",
    },
    "rings": {
        "ring": "(book)",
        "ringless": "(book)",
        "ranks": "(book)",
    },
    "tear": {
        "torn": "(hold, others)",
    },
    "bear": {
        "borne": "(loss, fund, chest, funds, worths)",
    },
}

# What is handed in to make an object of a class that is made with something.
MADE_WITH = {"Floor": (100, 10)}

METHODS = {
    "kinds": {
        "Kind": {"lets": "(crosses, amount, wanted)", "keeps": "()"},
        "Limit": {"lets": "(crosses, amount, wanted)", "keeps": "()"},
        "Now": {"lets": "(crosses, amount, wanted)", "keeps": "()"},
        "Whole": {"lets": "(crosses, amount, wanted)", "keeps": "()"},
        "Quiet": {"lets": "(crosses, amount, wanted)", "keeps": "()"},
    },
    "phases": {
        "Phase": {"meets": "()", "takes": "(word)", "rests_asleep": "()", "leads": "(word)"},
        "Open": {"meets": "()", "takes": "(word)", "rests_asleep": "()", "leads": "(word)"},
        "Call": {"meets": "()", "takes": "(word)", "rests_asleep": "()", "leads": "(word)"},
        "Halt": {"meets": "()", "takes": "(word)", "rests_asleep": "()", "leads": "(word)"},
    },
    "floor": {
        "Floor": {
            "enter": "(word, order)",
            "lay": "(word, order, trigger)",
            "take_out": "(name)",
            "lessen": "(name, left)",
            "turn": "(word)",
            "find": "(name)",
            "look": "()",
            "open_of": "(who)",
        },
    },
    "purse": {
        "Purse": {
            "move": "(coins)",
            "set_by": "(coins)",
            "take_by": "(coins)",
            "spend_by": "(coins)",
            "trade": "(ware, side, amount)",
            "holding": "(ware)",
            "look": "()",
        },
    },
}


class InterfaceTest(unittest.TestCase):
    def test_each_function_has_its_arguments(self):
        for module, functions in ARGUMENTS.items():
            for name, arguments in functions.items():
                with self.subTest(module=module, name=name):
                    function = getattr(import_module("bellbook." + module), name)
                    self.assertEqual(str(inspect.signature(function)), arguments)

    def test_each_method_has_its_arguments(self):
        for module, classes in METHODS.items():
            for name, methods in classes.items():
                made = getattr(import_module("bellbook." + module), name)(*MADE_WITH.get(name, ()))
                for method, arguments in methods.items():
                    with self.subTest(module=module, name=name, method=method):
                        self.assertEqual(str(inspect.signature(getattr(made, method))), arguments)


if __name__ == "__main__":
    unittest.main()
