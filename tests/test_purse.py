"""Points 2, 5 and 26: a house's purse."""

import unittest

from bellbook.errors import BadNumber, BadSide
from bellbook.purse import Purse

FAR = 10 ** 60


class PurseTest(unittest.TestCase):
    def assert_look(self, purse, coins, fund, holdings):
        self.assertEqual(purse.look(), (coins, fund, holdings))

    def assert_refused(self, error, purse, method, *arguments):
        before = purse.look()
        with self.subTest(method=method, arguments=arguments):
            with self.assertRaises(error):
                getattr(purse, method)(*arguments)
            self.assertEqual(purse.look(), before)

    def with_fund(self, coins, fund):
        purse = Purse()
        purse.move(coins + fund)
        purse.set_by(fund)
        return purse

    def test_a_new_purse_has_nothing(self):
        self.assert_look(Purse(), 0, 0, [])
        self.assertEqual(Purse().holding("tea"), 0)

    def test_move(self):
        purse = Purse()
        for coins, behind in [(5, 5), (0, 5), (-5, 0), (-1, -1), (FAR, FAR - 1), (-FAR, -1)]:
            self.assertIsNone(purse.move(coins))
            self.assert_look(purse, behind, 0, [])
        self.assertIsNone(purse.move(coins=1))
        self.assert_look(purse, 0, 0, [])

    def test_set_by(self):
        purse = Purse()
        purse.move(10)
        for coins, left, fund in [(0, 10, 0), (4, 6, 4), (6, 0, 10), (1, -1, 11), (100, -101, 111)]:
            self.assertIsNone(purse.set_by(coins))
            self.assert_look(purse, left, fund, [])
        self.assertIsNone(purse.set_by(coins=1))
        self.assert_look(purse, -102, 112, [])

    def test_take_by(self):
        purse = self.with_fund(3, 10)
        for coins, left, fund in [(0, 3, 10), (4, 7, 6), (6, 13, 0), (0, 13, 0)]:
            self.assertIsNone(purse.take_by(coins))
            self.assert_look(purse, left, fund, [])
        purse.set_by(2)
        self.assertIsNone(purse.take_by(coins=1))
        self.assert_look(purse, 12, 1, [])

    def test_spend_by(self):
        purse = self.with_fund(3, 10)
        for coins, fund in [(0, 10), (4, 6), (6, 0), (0, 0)]:
            self.assertIsNone(purse.spend_by(coins))
            self.assert_look(purse, 3, fund, [])
        purse.set_by(2)
        self.assertIsNone(purse.spend_by(coins=1))
        self.assert_look(purse, 1, 1, [])

    def test_out_of_the_bounds_of_its_part(self):
        for method in ["take_by", "spend_by"]:
            purse = self.with_fund(30, 10)
            for coins in [-1, -10, -FAR, 11, 40, FAR]:
                self.assert_refused(BadNumber, purse, method, coins)
            self.assert_look(purse, 30, 10, [])
            for coins in [-1, 1]:
                self.assert_refused(BadNumber, self.with_fund(30, 0), method, coins)

    def test_trade_through_nought(self):
        purse = Purse()
        for side, amount, hold in [("buy", 3, 3), ("sell", 2, 1), ("sell", 5, -4), ("sell", 1, -5), ("buy", 4, -1),
                                   ("buy", 3, 2), ("buy", 0, 2), ("sell", 0, 2), ("buy", FAR, FAR + 2),
                                   ("sell", 2 * FAR, 2 - FAR)]:
            self.assertIsNone(purse.trade("tea", side, amount))
            self.assertEqual(purse.holding("tea"), hold)
            self.assert_look(purse, 0, 0, [("tea", hold)])

    def test_trade_leaves_the_coins(self):
        purse = self.with_fund(30, 10)
        purse.trade("tea", "buy", 7)
        purse.trade(ware="rye", side="sell", amount=2)
        self.assert_look(purse, 30, 10, [("rye", -2), ("tea", 7)])

    def test_bad_side(self):
        purse = self.with_fund(30, 10)
        purse.trade("tea", "buy", 7)
        for side in ["", "Buy", "SELL", "buy ", " sell", "bought", "tea"]:
            for ware, amount in [("tea", 1), ("rye", 1), ("tea", 0)]:
                self.assert_refused(BadSide, purse, "trade", ware, side, amount)

    def test_holding_of_each_ware_apart(self):
        purse = Purse()
        purse.trade("tea", "buy", 7)
        purse.trade("rye", "sell", 2)
        self.assertEqual([purse.holding(ware) for ware in ["tea", "rye", "oil"]], [7, -2, 0])
        self.assertEqual(purse.holding(ware="tea"), 7)
        # To ask for a ware does not bring it in.
        self.assert_look(purse, 0, 0, [("rye", -2), ("tea", 7)])

    def test_holdings_of_nought_are_not_told(self):
        purse = Purse()
        purse.trade("tea", "buy", 0)
        self.assert_look(purse, 0, 0, [])
        purse.trade("tea", "buy", 2)
        purse.trade("rye", "sell", 2)
        purse.trade("tea", "sell", 2)
        self.assert_look(purse, 0, 0, [("rye", -2)])
        self.assertEqual(purse.holding("tea"), 0)
        purse.trade("rye", "buy", 2)
        self.assert_look(purse, 0, 0, [])
        purse.trade("tea", "sell", 1)
        self.assert_look(purse, 0, 0, [("tea", -1)])

    def test_the_order_of_the_names(self):
        order = ["a", "a0", "a01", "a1", "a9", "aa", "ab", "b", "b10", "b2", "z"]
        for names in [order, order[::-1], order[::2] + order[1::2]]:
            purse = Purse()
            for name in names:
                purse.trade(name, "buy", 1 + order.index(name))
            self.assert_look(purse, 0, 0, [(name, 1 + place) for place, name in enumerate(order)])

    def test_the_kinds_of_what_is_told(self):
        purse = self.with_fund(30, 10)
        purse.trade("tea", "buy", 7)
        told = purse.look()
        self.assertEqual([type(told)] + [type(part) for part in told], [tuple, int, int, list])
        self.assertIs(type(told[2][0]), tuple)

    def test_what_is_told_is_the_askers_own(self):
        purse = Purse()
        purse.trade("tea", "buy", 7)
        told = purse.look()
        self.assertIsNot(purse.look()[2], told[2])
        told[2].append(("rye", 1))
        self.assert_look(purse, 0, 0, [("tea", 7)])
        told = purse.look()
        purse.trade("tea", "buy", 1)
        purse.move(3)
        self.assertEqual(told, (0, 0, [("tea", 7)]))

    def test_two_purses_keep_apart(self):
        one, other = Purse(), Purse()
        one.move(10)
        one.set_by(4)
        one.trade("tea", "buy", 7)
        self.assert_look(other, 0, 0, [])
        other.trade("tea", "sell", 1)
        other.move(-1)
        self.assert_look(one, 6, 4, [("tea", 7)])
        self.assert_look(other, -1, 0, [("tea", -1)])
        self.assert_look(Purse(), 0, 0, [])


if __name__ == "__main__":
    unittest.main()
