"""Points 2, 10 and 15: what is wanted and offered at a price."""

import unittest

from bellbook.curve import limits, offered, surplus, volume, wanted
from bellbook.orders import filled, lessened, made
from tests.helper import numbered

FAR = 10 ** 9

BUYS = numbered("buy", (30, 4), (20, 16, 2), (20, 1), (10, 5, 3))
SELLS = numbered("sell", (15, 3), (20, 8, 1), (25, 2), (25, 7, 4))


class WantedTest(unittest.TestCase):
    def test_below_at_between_and_above_the_limits(self):
        for price, amount in [(1, 26), (9, 26), (10, 26), (11, 21), (19, 21), (20, 21), (21, 4), (29, 4), (30, 4),
                              (31, 0), (FAR, 0)]:
            with self.subTest(price=price):
                self.assertEqual(wanted(BUYS, price), amount)

    def test_the_empty_line(self):
        for price in [1, 20, FAR]:
            self.assertEqual(wanted([], price), 0)

    def test_hidden_parts_count_as_they_are_left(self):
        order = made("b1", "ann", "buy", 20, 16, 4)
        self.assertEqual(wanted([filled(order, 3)], 20), 13)
        self.assertEqual(wanted([lessened(order, 9)], 20), 9)


class OfferedTest(unittest.TestCase):
    def test_below_at_between_and_above_the_limits(self):
        for price, amount in [(1, 0), (14, 0), (15, 3), (16, 3), (19, 3), (20, 11), (21, 11), (24, 11), (25, 20),
                              (26, 20), (FAR, 20)]:
            with self.subTest(price=price):
                self.assertEqual(offered(SELLS, price), amount)

    def test_the_empty_line(self):
        for price in [1, 20, FAR]:
            self.assertEqual(offered([], price), 0)

    def test_hidden_parts_count_as_they_are_left(self):
        order = made("s1", "ann", "sell", 20, 16, 4)
        self.assertEqual(offered([filled(order, 4)], 20), 12)
        self.assertEqual(offered([lessened(order, 2)], 20), 2)


class VolumeTest(unittest.TestCase):
    def test_the_lesser_of_the_two_and_their_difference(self):
        for price, least, difference in [(1, 0, 26), (10, 0, 26), (14, 0, 21), (15, 3, 18), (19, 3, 18),
                                         (20, 11, 10), (21, 4, 7), (24, 4, 7), (25, 4, 16), (30, 4, 16),
                                         (31, 0, 20), (FAR, 0, 20)]:
            with self.subTest(price=price):
                self.assertEqual(volume(BUYS, SELLS, price), least)
                self.assertEqual(surplus(BUYS, SELLS, price), difference)

    def test_as_much_is_wanted_as_offered(self):
        buys, sells = numbered("buy", (20, 7)), numbered("sell", (20, 7, 1))
        self.assertEqual(volume(buys, sells, 20), 7)
        self.assertEqual(surplus(buys, sells, 20), 0)

    def test_empty_lines(self):
        for price in [1, 20, FAR]:
            self.assertEqual(volume([], [], price), 0)
            self.assertEqual(surplus([], [], price), 0)
            self.assertEqual(volume(BUYS, [], price), 0)
            self.assertEqual(volume([], SELLS, price), 0)
            self.assertEqual(surplus(BUYS, [], price), wanted(BUYS, price))
            self.assertEqual(surplus([], SELLS, price), offered(SELLS, price))

    def test_a_house_may_meet_itself(self):
        buys = [made("b1", "ann", "buy", 20, 5)]
        sells = [made("s1", "ann", "sell", 20, 4)]
        self.assertEqual(volume(buys, sells, 20), 4)

    def test_great_amounts(self):
        buys = numbered("buy", *[(FAR, FAR) for place in range(300)])
        sells = numbered("sell", *[(1, FAR) for place in range(299)])
        self.assertEqual(volume(buys, sells, FAR), 299 * FAR)
        self.assertEqual(surplus(buys, sells, 1), FAR)

    def test_the_kinds_of_what_is_told(self):
        for told in [wanted(BUYS, 20), offered(SELLS, 20), volume(BUYS, SELLS, 20), surplus(BUYS, SELLS, 20),
                     wanted([], 1), offered([], 1), volume([], [], 1), surplus([], [], 1)]:
            self.assertIs(type(told), int)


class LimitsTest(unittest.TestCase):
    def test_each_once_the_least_first(self):
        self.assertEqual(limits(BUYS, SELLS), [10, 15, 20, 25, 30])

    def test_of_one_line(self):
        self.assertEqual(limits(BUYS, []), [10, 20, 30])
        self.assertEqual(limits([], SELLS), [15, 20, 25])
        self.assertEqual(limits([], []), [])

    def test_equal_prices_between_the_lines(self):
        self.assertEqual(limits(numbered("buy", (20, 1)), numbered("sell", (20, 1))), [20])
        self.assertEqual(limits(numbered("buy", (20, 1), (20, 2)), numbered("sell", (20, 1), (21, 1))), [20, 21])

    def test_by_number_and_not_by_figures(self):
        self.assertEqual(limits(numbered("buy", (100, 1), (9, 1)), numbered("sell", (10, 1), (FAR, 1))),
                         [9, 10, 100, FAR])

    def test_the_handed_lines_stay(self):
        buys, sells = list(BUYS), list(SELLS)
        told = limits(buys, sells)
        self.assertIs(type(told), list)
        told.append(99)
        wanted(buys, 20)
        offered(sells, 20)
        volume(buys, sells, 20)
        surplus(buys, sells, 20)
        self.assertEqual((buys, sells), (BUYS, SELLS))
        self.assertEqual(limits(buys, sells), [10, 15, 20, 25, 30])
        limits([], []).append(99)
        self.assertEqual(limits([], []), [])


if __name__ == "__main__":
    unittest.main()
