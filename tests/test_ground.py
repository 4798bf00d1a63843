"""Points 3 and 4: numbers, names, prices, amounts and sides."""

import unittest

from bellbook.errors import BadName, BadNumber, BadSide
from bellbook.ground import (
    checked_amount, checked_name, checked_number, checked_price, checked_side, is_name,
)

SMALL = "abcdefghijklmnopqrstuvwxyz"
FIGURES = "0123456789"
PLAIN_SIGNS = [chr(code) for code in range(0, 128)]
FAR_SIGNS = ["\x85", "\xa0", "\xaa", "\xb2", "\xb5", "\xdf", "\xe9", "\u0131", "\u0660", "\u2028", "\u2460", "\uff11",
             "\uff41", "\U0001d7ce"]


class NameTest(unittest.TestCase):
    def assert_name(self, text):
        with self.subTest(text=text):
            self.assertIs(is_name(text), True)
            self.assertEqual(checked_name(text), text)

    def assert_no_name(self, text):
        with self.subTest(text=text):
            self.assertIs(is_name(text), False)
            with self.assertRaises(BadName):
                checked_name(text)

    def test_ordinary_names(self):
        for text in ["rye", "house7", "a1b2c3", "z", "buy", "abcdefghijkl", "a00000000000"]:
            self.assert_name(text)

    def test_every_text_of_one_sign(self):
        for sign in PLAIN_SIGNS + FAR_SIGNS:
            if sign in SMALL:
                self.assert_name(sign)
            else:
                self.assert_no_name(sign)

    def test_every_sign_at_each_place(self):
        for length in [2, 11, 12]:
            for place in range(length):
                for sign in PLAIN_SIGNS + FAR_SIGNS:
                    text = "a" * place + sign + "a" * (length - place - 1)
                    if sign in SMALL or (place > 0 and sign in FIGURES):
                        self.assert_name(text)
                    else:
                        self.assert_no_name(text)

    def test_lengths(self):
        for sign in "az":
            for length in range(1, 13):
                self.assert_name(sign * length)
            for length in [0, 13, 14, 24, 200000]:
                self.assert_no_name(sign * length)

    def test_line_ends_behind_and_ahead(self):
        for text in ["a\n", "\na", "rye\n", "abcdefghijk\n", "abcdefghijkl\n", "a\r", "\n", "a\nb"]:
            self.assert_no_name(text)

    def test_wrong_texts(self):
        for text in ["", " ", "7", "7a", "Rye", "rYe", "ryE", "a b", " a", "a ", "a_b", "a-b", "a.b", "a`", "a{",
                     "a/", "a:", "a@", "a["]:
            self.assert_no_name(text)


class NumberTest(unittest.TestCase):
    def assert_bounds(self, low, high):
        for number in [low, high, (low + high) // 2]:
            with self.subTest(number=number, low=low, high=high):
                told = checked_number(number, low, high)
                self.assertEqual(told, number)
                self.assertIs(type(told), int)
        for number in [low - 1, high + 1, low - 10 ** 59, high + 10 ** 59]:
            with self.subTest(number=number, low=low, high=high), self.assertRaises(BadNumber):
                checked_number(number, low, high)

    def test_at_and_beside_either_bound(self):
        for low, high in [(1, 10), (0, 1), (0, 0), (1, 1), (1, 10 ** 9), (0, 10 ** 9), (1, 10 ** 18)]:
            self.assert_bounds(low, high)

    def test_bounds_below_nought(self):
        for low, high in [(-10, -1), (-1, 0), (-1, 1), (-5, -5), (-10 ** 9, 10 ** 9)]:
            self.assert_bounds(low, high)

    def test_numbers_of_sixty_figures(self):
        great = 10 ** 60 - 1
        for low, high in [(great - 1, great), (-great, great), (-great, 1 - great), (10 ** 59, 10 ** 59 + 1)]:
            self.assert_bounds(low, high)

    def test_prices_and_amounts(self):
        for checked in [checked_price, checked_amount]:
            for number in [1, 2, 10 ** 9 - 1, 10 ** 9]:
                self.assertEqual(checked(number), number)
            for number in [0, -1, -10 ** 9, 10 ** 9 + 1, 10 ** 60 - 1]:
                with self.subTest(number=number), self.assertRaises(BadNumber):
                    checked(number)


class SideTest(unittest.TestCase):
    def test_sides(self):
        self.assertEqual(checked_side("buy"), "buy")
        self.assertEqual(checked_side("sell"), "sell")

    def test_no_sides(self):
        for text in ["", "b", "Buy", "SELL", "buy ", " sell", "sell\n", "buysell", "uy", "hold"]:
            with self.subTest(text=text), self.assertRaises(BadSide):
                checked_side(text)


if __name__ == "__main__":
    unittest.main()
