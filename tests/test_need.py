"""Points 2, 24 and 25: what is needed, what a house is worth, and its free sum."""

import itertools
import unittest

from bellbook.need import free, need, slip, widest, worth

FAR = 10 ** 9


class WidestTest(unittest.TestCase):
    def assert_widest(self, hold, buys, sells, expected):
        with self.subTest(hold=hold, buys=buys, sells=sells):
            self.assertEqual(widest(hold, buys, sells), expected)
            self.assertEqual(widest(hold=hold, buys=buys, sells=sells), expected)

    def test_no_orders(self):
        for hold, expected in [(0, 0), (7, 7), (-7, 7), (1, 1), (-1, 1)]:
            self.assert_widest(hold, [], [], expected)

    def test_holding_nought(self):
        self.assert_widest(0, [(20, 3), (10, 4)], [], 7)
        self.assert_widest(0, [], [(20, 3), (10, 5)], 8)
        self.assert_widest(0, [(20, 3), (10, 4)], [(30, 6)], 7)
        self.assert_widest(0, [(20, 3)], [(30, 6)], 6)

    def test_holding_above_nought(self):
        self.assert_widest(5, [(20, 3)], [], 8)
        self.assert_widest(5, [], [(20, 3)], 5)
        self.assert_widest(5, [], [(20, 10)], 5)
        self.assert_widest(5, [], [(20, 11)], 6)
        self.assert_widest(5, [(20, 2)], [(20, 12)], 7)
        self.assert_widest(5, [(20, 2)], [(20, 13)], 8)

    def test_holding_below_nought(self):
        self.assert_widest(-5, [], [(20, 3)], 8)
        self.assert_widest(-5, [(20, 3)], [], 5)
        self.assert_widest(-5, [(20, 10)], [], 5)
        self.assert_widest(-5, [(20, 11)], [], 6)
        self.assert_widest(-5, [(20, 12)], [(20, 2)], 7)
        self.assert_widest(-5, [(20, 13)], [(20, 2)], 8)

    def test_prices_are_not_looked_at(self):
        self.assert_widest(1, [(1, 2), (FAR, 3)], [(1, 4), (FAR, 5)], 8)


class SlipTest(unittest.TestCase):
    def assert_slip(self, buys, sells, mark, expected):
        with self.subTest(buys=buys, sells=sells, mark=mark):
            self.assertEqual(slip(buys, sells, mark), expected)
            self.assertEqual(slip(buys=buys, sells=sells, mark=mark), expected)

    def test_a_buy_on_both_sides_of_the_mark(self):
        for price, expected in [(18, 0), (19, 0), (20, 0), (21, 3), (25, 15)]:
            self.assert_slip([(price, 3)], [], 20, expected)

    def test_a_sell_on_both_sides_of_the_mark(self):
        for price, expected in [(22, 0), (21, 0), (20, 0), (19, 3), (15, 15)]:
            self.assert_slip([], [(price, 3)], 20, expected)

    def test_several(self):
        # A gain of one order is not set against the loss of another one.
        self.assert_slip([(25, 3), (15, 9), (21, 1)], [(18, 2), (29, 9), (20, 9)], 20, 15 + 1 + 4)

    def test_none(self):
        self.assert_slip([], [], 20, 0)


class NeedTest(unittest.TestCase):
    def assert_need(self, hold, buys, sells, mark, rate, fee, expected):
        with self.subTest(hold=hold, buys=buys, sells=sells, mark=mark, rate=rate, fee=fee):
            self.assertEqual(need(hold, buys, sells, mark, rate, fee), expected)
            self.assertEqual(need(hold=hold, buys=buys, sells=sells, mark=mark, rate=rate, fee=fee), expected)

    def test_the_rate_alone(self):
        self.assert_need(4, [], [], 20, 3, 9, 12)
        self.assert_need(-4, [], [], 20, 3, 9, 12)
        self.assert_need(4, [(20, 2)], [(20, 5)], 20, 3, 0, 18)
        self.assert_need(-4, [(20, 2)], [(20, 5)], 20, 3, 0, 27)

    def test_the_slip_alone(self):
        self.assert_need(4, [(23, 2)], [], 20, 0, 0, 6)
        self.assert_need(4, [], [(18, 5)], 20, 0, 0, 10)
        self.assert_need(4, [(19, 2)], [(21, 5)], 20, 0, 0, 0)

    def test_the_fee_alone(self):
        self.assert_need(4, [(20, 2)], [], 20, 0, 7, 14)
        self.assert_need(4, [], [(20, 5)], 20, 0, 7, 35)
        self.assert_need(-4, [(20, 2), (1, 1)], [(20, 5), (FAR, 3)], 20, 0, 7, 77)

    def test_all_three(self):
        self.assert_need(4, [(23, 2), (10, 1)], [(18, 5), (30, 4)], 20, 3, 7, 3 * 7 + (6 + 10) + 7 * 12)
        self.assert_need(-4, [(23, 2), (10, 1)], [(18, 5), (30, 4)], 20, 3, 7, 3 * 13 + (6 + 10) + 7 * 12)

    def test_nothing(self):
        self.assert_need(0, [], [], 20, 3, 7, 0)
        self.assert_need(5, [(20, 3)], [(20, 3)], 20, 0, 0, 0)

    def test_great_numbers(self):
        self.assert_need(FAR, [(FAR, FAR)], [], 1, FAR, FAR, FAR * 2 * FAR + (FAR - 1) * FAR + FAR * FAR)


class WorthTest(unittest.TestCase):
    def assert_worth(self, coins, owed, rows, expected):
        with self.subTest(coins=coins, owed=owed, rows=rows):
            self.assertEqual(worth(coins, owed, rows), expected)
            self.assertEqual(worth(coins=coins, owed=owed, rows=rows), expected)

    def test_no_wares(self):
        for coins, owed in itertools.product([-3, 0, 5], [-11, 0, 7]):
            self.assert_worth(coins, owed, [], coins + owed)

    def test_holdings_at_the_mark(self):
        self.assert_worth(100, 0, [(3, 20)], 160)
        self.assert_worth(100, 0, [(-3, 20)], 40)
        self.assert_worth(-100, -5, [(-3, 20)], -165)
        self.assert_worth(100, 0, [(0, 20)], 100)

    def test_several_wares(self):
        self.assert_worth(100, -10, [(3, 20), (-4, 7), (0, 9), (1, 1)], 100 - 10 + 60 - 28 + 1)
        self.assert_worth(0, 0, [(2, 5), (2, 5)], 20)


class FreeTest(unittest.TestCase):
    def assert_free(self, coins, owed, rows, expected):
        with self.subTest(coins=coins, owed=owed, rows=rows):
            handed = [tuple(list(part) if isinstance(part, list) else part for part in row) for row in rows]
            self.assertEqual(free(coins, owed, handed), expected)
            self.assertEqual(free(coins=coins, owed=owed, rows=handed), expected)
            self.assertEqual(handed, rows)

    def test_no_wares(self):
        for coins, owed in itertools.product([-3, 0, 5], [-11, 0, 7]):
            self.assert_free(coins, owed, [], coins + owed)

    def test_one_ware(self):
        self.assert_free(100, -10, [(3, [], [], 20, 4, 7)], 90 + 60 - 12)
        self.assert_free(100, -10, [(-3, [], [], 20, 4, 7)], 90 - 60 - 12)
        self.assert_free(100, 10, [(3, [(23, 2)], [(18, 8)], 20, 4, 7)], 110 + 60 - (20 + 6 + 16 + 70))
        self.assert_free(0, 0, [(0, [(20, 1)], [], 20, 0, 0)], 0)
        self.assert_free(0, 0, [(0, [(21, 1)], [], 20, 0, 0)], -1)

    def test_several_wares(self):
        rows = [(3, [(23, 2)], [(18, 8)], 20, 4, 7), (-2, [], [], 5, 1, 1), (0, [(6, 9)], [], 7, 0, 2)]
        self.assert_free(1000, 10, rows, 1010 + (60 - 112) + (-10 - 2) + (0 - 18))

    def test_a_ware_of_no_holding_and_no_orders_changes_nothing(self):
        self.assert_free(7, -9, [(0, [], [], 20, 3, 4)], -2)

    def test_the_kinds_of_what_is_told(self):
        for told in [widest(1, [], []), slip([], [], 20), need(0, [], [], 20, 0, 0), worth(0, 0, []), free(0, 0, [])]:
            self.assertIs(type(told), int)


def lessened_at(orders, place, amount):
    """The orders with that much less wanted by one of them, without it where it wants nothing more."""
    price, left = orders[place]
    rest = [(price, left - amount)] if left > amount else []
    return orders[:place] + rest + orders[place + 1:]


class NoLowerTest(unittest.TestCase):
    """Point 25: fillings and takings out leave the free sum no lower, while the marks stay."""

    def cases(self):
        orders = [[(price, left)] for price in [18, 20, 23] for left in [1, 3]]
        lines = [[]] + orders + [[(23, 2), (18, 3)]]
        for hold, buys, sells in itertools.product([-9, -3, -1, 0, 2, 9], lines, lines):
            for rate, fee in [(0, 0), (5, 0), (0, 2), (5, 2)]:
                yield hold, buys, sells, rate, fee

    def test_fillings_at_the_limit_or_better(self):
        for hold, buys, sells, rate, fee in self.cases():
            before = free(100, -7, [(hold, buys, sells, 20, rate, fee)])
            for place, (limit, left) in enumerate(buys):
                for amount, better in itertools.product(range(1, left + 1), [0, 1, 5]):
                    paid = (limit - better) * amount
                    row = (hold + amount, lessened_at(buys, place, amount), sells, 20, rate, fee)
                    self.assertGreaterEqual(free(100 - fee * amount, -7 - paid, [row]), before)
            for place, (limit, left) in enumerate(sells):
                for amount, better in itertools.product(range(1, left + 1), [0, 1, 5]):
                    got = (limit + better) * amount
                    row = (hold - amount, buys, lessened_at(sells, place, amount), 20, rate, fee)
                    self.assertGreaterEqual(free(100 - fee * amount, -7 + got, [row]), before)

    def test_parts_taken_out(self):
        for hold, buys, sells, rate, fee in self.cases():
            before = free(100, -7, [(hold, buys, sells, 20, rate, fee)])
            for place, (limit, left) in enumerate(buys):
                for amount in range(1, left + 1):
                    row = (hold, lessened_at(buys, place, amount), sells, 20, rate, fee)
                    self.assertGreaterEqual(free(100, -7, [row]), before)
            for place, (limit, left) in enumerate(sells):
                for amount in range(1, left + 1):
                    row = (hold, buys, lessened_at(sells, place, amount), 20, rate, fee)
                    self.assertGreaterEqual(free(100, -7, [row]), before)


if __name__ == "__main__":
    unittest.main()
