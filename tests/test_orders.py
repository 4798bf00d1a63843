"""Points 4, 5 and 8 to 12: orders."""

import unittest

from bellbook.errors import BadName, BadNumber, BadSide
from bellbook.orders import ahead, allows, filled, fresh, lessened, made, other_side, renews

MOST = 10 ** 9


class MadeTest(unittest.TestCase):
    def test_without_a_peak_it_shows_all(self):
        self.assertEqual(made("o1", "ann", "buy", 20, 7), ("o1", "ann", "buy", 20, 7, 7, 0))
        self.assertEqual(made("o2", "bob", "sell", 1, 1), ("o2", "bob", "sell", 1, 1, 1, 0))
        self.assertEqual(made("o3", "bob", "sell", 5, MOST, 0), ("o3", "bob", "sell", 5, MOST, MOST, 0))

    def test_with_a_peak_it_shows_the_peak(self):
        self.assertEqual(made("o1", "ann", "buy", 20, 7, 3), ("o1", "ann", "buy", 20, 7, 3, 3))
        self.assertEqual(made("o1", "ann", "buy", 20, 7, 7), ("o1", "ann", "buy", 20, 7, 7, 7))
        self.assertEqual(made("o1", "ann", "sell", 20, 16, 1), ("o1", "ann", "sell", 20, 16, 1, 1))

    def test_it_is_a_tuple_made_by_named_arguments_too(self):
        told = made(name="o1", who="ann", side="buy", price=20, amount=7, peak=3)
        self.assertIs(type(told), tuple)
        self.assertEqual(told, ("o1", "ann", "buy", 20, 7, 3, 3))

    def test_an_order_may_be_called_like_its_house(self):
        self.assertEqual(made("ann", "ann", "buy", 2, 3), ("ann", "ann", "buy", 2, 3, 3, 0))

    def test_bounds_of_the_peak(self):
        for amount in [1, 2, 15, 16, 17, 31, 32, 33, 160, 161, MOST - 1, MOST]:
            least = (amount + 15) // 16
            for peak in {0, least, least + 1, amount - 1, amount}:
                if peak == 0 or least <= peak <= amount:
                    with self.subTest(amount=amount, peak=peak):
                        order = made("o1", "ann", "buy", 20, amount, peak)
                        self.assertEqual(order[4:], (amount, peak if peak > 0 else amount, peak))
            for peak in {-1, least - 1, amount + 1, -amount, MOST + 1, 10 ** 59} - {0}:
                with self.subTest(amount=amount, peak=peak), self.assertRaises(BadNumber):
                    made("o1", "ann", "buy", 20, amount, peak)

    def test_the_peak_of_seventeen_and_of_thirty_two(self):
        with self.assertRaises(BadNumber):
            made("o1", "ann", "buy", 20, 17, 1)
        self.assertEqual(made("o1", "ann", "buy", 20, 17, 2)[5], 2)
        with self.assertRaises(BadNumber):
            made("o1", "ann", "buy", 20, 32, 1)
        self.assertEqual(made("o1", "ann", "buy", 20, 32, 2)[5], 2)
        with self.assertRaises(BadNumber):
            made("o1", "ann", "buy", 20, 33, 2)

    def test_bounds_of_price_and_amount(self):
        for number in [1, 2, MOST - 1, MOST]:
            self.assertEqual(made("o1", "ann", "buy", number, 5)[3], number)
            self.assertEqual(made("o1", "ann", "sell", 5, number)[4], number)
        for number in [0, -1, -5, MOST + 1, 10 ** 59]:
            for side in ["buy", "sell"]:
                with self.subTest(number=number, side=side):
                    with self.assertRaises(BadNumber):
                        made("o1", "ann", side, number, 5)
                    with self.assertRaises(BadNumber):
                        made("o1", "ann", side, 5, number)

    def test_amounts_out_of_bounds_with_a_peak(self):
        for amount, peak in [(0, 1), (0, 0), (-1, -1), (MOST + 1, MOST), (MOST + 1, MOST + 1), (-1, 1)]:
            with self.subTest(amount=amount, peak=peak), self.assertRaises(BadNumber):
                made("o1", "ann", "buy", 5, amount, peak)

    def test_bad_names(self):
        for text in ["", "1a", "Ann", "a b", "ann\n", "abcdefghijklm", "a_b"]:
            with self.subTest(text=text):
                with self.assertRaises(BadName):
                    made(text, "ann", "buy", 20, 7)
                with self.assertRaises(BadName):
                    made("o1", text, "buy", 20, 7)

    def test_bad_sides(self):
        for text in ["", "Buy", "sell ", "hold", "buy\n", "uy", "o1"]:
            with self.subTest(text=text), self.assertRaises(BadSide):
                made("o1", "ann", text, 20, 7)

    def test_a_bad_name_goes_ahead_of_all(self):
        for name, who in [("", "ann"), ("o1", ""), ("", "")]:
            for side, price, amount, peak in [("x", 20, 7, 0), ("buy", 0, 7, 0), ("buy", 20, 0, 0), ("buy", 20, 7, 8),
                                              ("x", 0, 0, -1)]:
                with self.subTest(name=name, who=who, side=side), self.assertRaises(BadName):
                    made(name, who, side, price, amount, peak)

    def test_a_bad_side_goes_ahead_of_bad_numbers(self):
        for price, amount, peak in [(0, 7, 0), (20, 0, 0), (20, 7, 8), (20, 7, -1), (0, 0, -1), (MOST + 1, 7, 0)]:
            with self.subTest(price=price, amount=amount, peak=peak), self.assertRaises(BadSide):
                made("o1", "ann", "x", price, amount, peak)


class FreshTest(unittest.TestCase):
    def test_without_a_peak(self):
        order = made("o1", "ann", "buy", 20, 7)
        self.assertEqual(fresh(order, 3), ("o1", "ann", "buy", 20, 3, 3, 0))
        self.assertEqual(fresh(order, 7), order)
        self.assertEqual(fresh(order, 90), ("o1", "ann", "buy", 20, 90, 90, 0))
        self.assertEqual(fresh(order, MOST), ("o1", "ann", "buy", 20, MOST, MOST, 0))

    def test_with_a_peak(self):
        order = made("o1", "ann", "sell", 20, 16, 4)
        self.assertEqual(fresh(order, 16), ("o1", "ann", "sell", 20, 16, 4, 4))
        self.assertEqual(fresh(order, 5), ("o1", "ann", "sell", 20, 5, 4, 4))
        self.assertEqual(fresh(order, 4), ("o1", "ann", "sell", 20, 4, 4, 4))
        self.assertEqual(fresh(order, 3), ("o1", "ann", "sell", 20, 3, 3, 4))
        self.assertEqual(fresh(order, 1), ("o1", "ann", "sell", 20, 1, 1, 4))

    def test_nothing_of_the_peak_is_looked_at_but_what_is_shown(self):
        order = made("o1", "ann", "sell", 20, 16, 1)
        self.assertEqual(fresh(order, 17), ("o1", "ann", "sell", 20, 17, 1, 1))
        self.assertEqual(fresh(order, MOST), ("o1", "ann", "sell", 20, MOST, 1, 1))

    def test_it_shows_anew_what_was_shown_in_part(self):
        order = filled(made("o1", "ann", "buy", 20, 16, 4), 3)
        self.assertEqual(order, ("o1", "ann", "buy", 20, 13, 1, 4))
        self.assertEqual(fresh(order, 13), ("o1", "ann", "buy", 20, 13, 4, 4))
        self.assertEqual(fresh(order, 2), ("o1", "ann", "buy", 20, 2, 2, 4))

    def test_the_handed_order_stays(self):
        order = made("o1", "ann", "buy", 20, 7, 2)
        fresh(order, 1)
        self.assertEqual(order, ("o1", "ann", "buy", 20, 7, 2, 2))


class FilledTest(unittest.TestCase):
    def test_a_part_without_a_peak(self):
        order = made("o1", "ann", "buy", 20, 7)
        self.assertEqual(filled(order, 1), ("o1", "ann", "buy", 20, 6, 6, 0))
        self.assertEqual(filled(order, 6), ("o1", "ann", "buy", 20, 1, 1, 0))

    def test_all_that_is_wanted(self):
        self.assertIsNone(filled(made("o1", "ann", "buy", 20, 7), 7))
        self.assertIsNone(filled(made("o1", "ann", "buy", 20, 7, 7), 7))
        self.assertIsNone(filled(made("o1", "ann", "buy", 20, 1), 1))
        self.assertIsNone(filled(fresh(made("o1", "ann", "buy", 20, 7, 3), 2), 2))

    def test_a_part_of_what_is_shown(self):
        order = made("o1", "ann", "sell", 20, 16, 4)
        self.assertEqual(filled(order, 1), ("o1", "ann", "sell", 20, 15, 3, 4))
        self.assertEqual(filled(order, 3), ("o1", "ann", "sell", 20, 13, 1, 4))
        self.assertEqual(filled(filled(order, 1), 2), ("o1", "ann", "sell", 20, 13, 1, 4))

    def test_all_that_is_shown_renews_it(self):
        order = made("o1", "ann", "sell", 20, 16, 4)
        self.assertEqual(filled(order, 4), ("o1", "ann", "sell", 20, 12, 4, 4))
        self.assertEqual(filled(filled(order, 1), 3), ("o1", "ann", "sell", 20, 12, 4, 4))

    def test_the_renewal_where_less_than_the_peak_is_wanted(self):
        order = made("o1", "ann", "sell", 20, 7, 4)
        self.assertEqual(filled(order, 4), ("o1", "ann", "sell", 20, 3, 3, 4))
        self.assertEqual(filled(made("o1", "ann", "sell", 20, 8, 4), 4), ("o1", "ann", "sell", 20, 4, 4, 4))
        self.assertEqual(filled(made("o1", "ann", "sell", 20, 9, 4), 4), ("o1", "ann", "sell", 20, 5, 4, 4))
        self.assertEqual(filled(made("o1", "ann", "sell", 20, 5, 4), 4), ("o1", "ann", "sell", 20, 1, 1, 4))

    def test_filled_up_to_its_end(self):
        order = made("o1", "ann", "buy", 9, 40, 6)
        wanted = []
        while order is not None:
            wanted.append(order[4:])
            order = filled(order, order[5])
        self.assertEqual(wanted, [(40, 6, 6), (34, 6, 6), (28, 6, 6), (22, 6, 6), (16, 6, 6), (10, 6, 6), (4, 4, 6)])

    def test_out_of_bounds(self):
        hidden = made("o1", "ann", "sell", 20, 16, 4)
        for order in [made("o1", "ann", "buy", 20, 7), hidden, filled(hidden, 3), fresh(hidden, 2)]:
            for amount in [0, -1, -order[5], order[5] + 1, order[4] + 1, 10 ** 59]:
                with self.subTest(order=order, amount=amount), self.assertRaises(BadNumber):
                    filled(order, amount)

    def test_the_hidden_part_is_not_traded(self):
        with self.assertRaises(BadNumber):
            filled(made("o1", "ann", "sell", 20, 16, 4), 16)
        with self.assertRaises(BadNumber):
            filled(made("o1", "ann", "sell", 20, 16, 4), 5)

    def test_the_handed_order_stays(self):
        order = made("o1", "ann", "sell", 20, 16, 4)
        for amount in [1, 3, 4]:
            filled(order, amount)
            self.assertEqual(order, ("o1", "ann", "sell", 20, 16, 4, 4))


class RenewsTest(unittest.TestCase):
    def test_without_a_peak_never(self):
        order = made("o1", "ann", "buy", 20, 7)
        for amount in range(1, 8):
            self.assertIs(renews(order, amount), False)

    def test_with_a_peak_where_all_that_is_shown_goes_and_more_is_wanted(self):
        order = made("o1", "ann", "sell", 20, 16, 4)
        for amount in [1, 2, 3]:
            self.assertIs(renews(order, amount), False)
        self.assertIs(renews(order, 4), True)
        part = filled(order, 3)
        self.assertIs(renews(part, 1), True)
        self.assertIs(renews(filled(order, 2), 1), False)
        self.assertIs(renews(made("o1", "ann", "sell", 20, 5, 4), 4), True)

    def test_not_where_it_wants_nothing_more(self):
        self.assertIs(renews(made("o1", "ann", "sell", 20, 4, 4), 4), False)
        self.assertIs(renews(made("o1", "ann", "sell", 20, 4, 4), 3), False)
        self.assertIs(renews(fresh(made("o1", "ann", "sell", 20, 16, 4), 3), 3), False)
        self.assertIs(renews(lessened(filled(made("o1", "ann", "sell", 20, 16, 4), 2), 2), 2), False)

    def test_the_handed_order_stays(self):
        order = made("o1", "ann", "sell", 20, 16, 4)
        renews(order, 4)
        self.assertEqual(order, ("o1", "ann", "sell", 20, 16, 4, 4))


class LessenedTest(unittest.TestCase):
    def test_without_a_peak(self):
        order = made("o1", "ann", "buy", 20, 7)
        self.assertEqual(lessened(order, 7), order)
        self.assertEqual(lessened(order, 6), ("o1", "ann", "buy", 20, 6, 6, 0))
        self.assertEqual(lessened(order, 1), ("o1", "ann", "buy", 20, 1, 1, 0))

    def test_with_a_peak_it_shows_what_it_showed_or_all(self):
        order = made("o1", "ann", "sell", 20, 16, 4)
        self.assertEqual(lessened(order, 16), order)
        self.assertEqual(lessened(order, 5), ("o1", "ann", "sell", 20, 5, 4, 4))
        self.assertEqual(lessened(order, 4), ("o1", "ann", "sell", 20, 4, 4, 4))
        self.assertEqual(lessened(order, 3), ("o1", "ann", "sell", 20, 3, 3, 4))

    def test_it_is_not_made_anew(self):
        order = filled(made("o1", "ann", "sell", 20, 16, 4), 3)
        self.assertEqual(lessened(order, 13), ("o1", "ann", "sell", 20, 13, 1, 4))
        self.assertEqual(lessened(order, 12), ("o1", "ann", "sell", 20, 12, 1, 4))
        self.assertEqual(lessened(order, 1), ("o1", "ann", "sell", 20, 1, 1, 4))

    def test_out_of_bounds(self):
        hidden = made("o1", "ann", "sell", 20, 16, 4)
        for order in [made("o1", "ann", "buy", 20, 7), hidden, filled(hidden, 3), fresh(hidden, 2)]:
            for left in [0, -1, -order[4], order[4] + 1, 10 ** 59]:
                with self.subTest(order=order, left=left), self.assertRaises(BadNumber):
                    lessened(order, left)

    def test_the_handed_order_stays(self):
        order = made("o1", "ann", "sell", 20, 16, 4)
        lessened(order, 2)
        self.assertEqual(order, ("o1", "ann", "sell", 20, 16, 4, 4))


class PriceTest(unittest.TestCase):
    def test_ahead(self):
        for less, greater in [(1, 2), (9, 10), (10 ** 9 - 1, 10 ** 9), (1, 10 ** 9)]:
            self.assertIs(ahead("buy", greater, less), True)
            self.assertIs(ahead("buy", less, greater), False)
            self.assertIs(ahead("sell", less, greater), True)
            self.assertIs(ahead("sell", greater, less), False)

    def test_a_price_is_not_ahead_of_the_same_one(self):
        for price in [1, 10, 10 ** 9]:
            self.assertIs(ahead("buy", price, price), False)
            self.assertIs(ahead("sell", price, price), False)

    def test_allows(self):
        for less, greater in [(1, 2), (9, 10), (10 ** 9 - 1, 10 ** 9), (1, 10 ** 9)]:
            self.assertIs(allows("buy", greater, less), True)
            self.assertIs(allows("buy", less, greater), False)
            self.assertIs(allows("sell", less, greater), True)
            self.assertIs(allows("sell", greater, less), False)

    def test_a_limit_allows_the_same_price(self):
        for price in [1, 10, 10 ** 9]:
            self.assertIs(allows("buy", price, price), True)
            self.assertIs(allows("sell", price, price), True)

    def test_other_side(self):
        self.assertEqual(other_side("buy"), "sell")
        self.assertEqual(other_side("sell"), "buy")


if __name__ == "__main__":
    unittest.main()
