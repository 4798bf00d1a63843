"""Points 2 and 15 to 18: the price of a call, its trades, and the two lines behind it."""

import itertools
import unittest

from bellbook.call import call_price, called
from bellbook.line import is_line
from bellbook.orders import filled, fresh, lessened, made
from tests.helper import across, buy, line_of, names, numbered, sell

FAR = 10 ** 9


class CallPriceTest(unittest.TestCase):
    def assert_price(self, buys, sells, near, price):
        with self.subTest(buys=buys, sells=sells, near=near):
            handed = (list(buys), list(sells))
            self.assertEqual(call_price(handed[0], handed[1], near), price)
            self.assertEqual(call_price(buys=handed[0], sells=handed[1], near=near), price)
            self.assertEqual(handed, (buys, sells))

    def test_the_greatest_volume(self):
        buys = numbered("buy", (30, 4), (20, 6), (10, 5))
        sells = numbered("sell", (5, 3), (15, 5), (25, 2))
        # At 5, 10, 15, 20, 25 and 30 there are traded 3, 3, 8, 8, 4 and 4.
        self.assert_price(buys, sells, 15, 15)
        self.assert_price(buys, sells, 20, 20)
        for near in [1, 5, 30, FAR]:
            self.assertIn(call_price(buys, sells, near), [15, 20])

    def test_the_greatest_volume_goes_ahead_of_the_least_surplus(self):
        buys = numbered("buy", (20, 1), (10, 9))
        sells = numbered("sell", (10, 3), (20, 1))
        # At 10 three of ten wanted are traded, at 20 one of four offered.
        self.assert_price(buys, sells, 20, 10)
        self.assert_price(buys, sells, FAR, 10)

    def test_the_least_surplus_of_equal_volumes(self):
        buys = numbered("buy", (30, 5), (20, 2))
        sells = numbered("sell", (20, 5), (30, 1))
        # At 20 and at 30 five are traded; at 20 two are left over, at 30 one.
        self.assert_price(buys, sells, 20, 30)
        self.assert_price(buys, sells, 1, 30)
        buys = numbered("buy", (30, 5), (20, 1))
        sells = numbered("sell", (20, 5), (30, 2))
        self.assert_price(buys, sells, 30, 20)
        self.assert_price(buys, sells, FAR, 20)

    def test_the_surplus_has_no_sign(self):
        # At 10 three too many are wanted, at 20 two too many are offered.
        buys = numbered("buy", (20, 4), (10, 3))
        sells = numbered("sell", (10, 4), (20, 2))
        self.assert_price(buys, sells, 10, 20)
        # At 10 two too many are wanted, at 20 three too many are offered.
        buys = numbered("buy", (20, 4), (10, 2))
        sells = numbered("sell", (10, 4), (20, 3))
        self.assert_price(buys, sells, 20, 10)

    def test_the_nearest_of_equal_surpluses(self):
        buys, sells = numbered("buy", (20, 5)), numbered("sell", (10, 5))
        for near, price in [(1, 10), (9, 10), (10, 10), (11, 10), (14, 10), (16, 20), (19, 20), (20, 20), (21, 20),
                            (FAR, 20)]:
            self.assert_price(buys, sells, near, price)

    def test_the_lower_one_of_two_as_near(self):
        self.assert_price(numbered("buy", (20, 5)), numbered("sell", (10, 5)), 15, 10)
        self.assert_price(numbered("buy", (16, 5)), numbered("sell", (14, 5)), 15, 14)
        self.assert_price(numbered("buy", (FAR, 1)), numbered("sell", (FAR - 2, 1)), FAR - 1, FAR - 2)

    def test_the_nearest_goes_behind_the_surplus(self):
        buys = numbered("buy", (20, 5))
        sells = numbered("sell", (10, 5), (20, 1))
        self.assert_price(buys, sells, 20, 10)

    def test_it_is_one_of_the_limit_prices(self):
        buys, sells = numbered("buy", (20, 5)), numbered("sell", (10, 5))
        for near in range(1, 31):
            self.assertIn(call_price(buys, sells, near), [10, 20])

    def test_both_of_one_price(self):
        for near in [1, 20, FAR]:
            self.assert_price(numbered("buy", (20, 5)), numbered("sell", (20, 7)), near, 20)
            self.assert_price(numbered("buy", (1, 1)), numbered("sell", (1, 1)), near, 1)

    def test_no_price(self):
        for near in [1, 20, FAR]:
            self.assert_price([], [], near, None)
            self.assert_price(numbered("buy", (20, 5), (10, 1)), [], near, None)
            self.assert_price([], numbered("sell", (20, 5), (30, 1)), near, None)
            self.assert_price(numbered("buy", (19, 5), (10, 1)), numbered("sell", (20, 5), (30, 1)), near, None)

    def test_hidden_parts_count(self):
        buys = numbered("buy", (30, 4), (20, 16, 1))
        sells = numbered("sell", (20, 16, 1), (30, 2))
        # Of what is shown, four would be traded at 30 with one left over, and two at 20.
        self.assert_price(buys, sells, 30, 20)
        part = [filled(fresh(buys[1], 12), 1)]
        self.assert_price(part, [made("s9", "ann", "sell", 10, 16, 2)], 10, 10)

    def test_a_house_may_meet_itself(self):
        self.assert_price([buy("b1", 20, who="ann")], [sell("s1", 10, who="ann")], 10, 10)

    def test_great_numbers(self):
        buys = numbered("buy", *[(FAR, FAR) for place in range(300)])
        sells = numbered("sell", *[(1, FAR) for place in range(300)])
        self.assert_price(buys, sells, 1, 1)
        self.assert_price(buys, sells, FAR, FAR)
        self.assertIs(type(call_price(buys, sells, 1)), int)


class CalledTest(unittest.TestCase):
    def assert_called(self, buys, sells, near, price, trades, buys_behind, sells_behind):
        with self.subTest(buys=buys, sells=sells, near=near):
            handed = (list(buys), list(sells))
            told = called(handed[0], handed[1], near)
            expected = (price, trades, buys_behind, sells_behind)
            self.assertEqual(told, expected)
            self.assertEqual([type(part) for part in (told,) + told[1:]], [tuple, list, list, list])
            self.assertTrue(is_line(told[2], "buy") and is_line(told[3], "sell"))
            self.assertEqual(across(told[2], told[3]), [])
            self.assertEqual(handed, (buys, sells))
            for part in told[1:]:
                part.append("more")
            self.assertEqual(told[1:], tuple(part + ["more"] for part in expected[1:]))
            self.assertEqual(handed, (buys, sells))
            self.assertEqual(called(handed[0], handed[1], near), expected)
            self.assertEqual(called(buys=handed[0], sells=handed[1], near=near), expected)

    def test_first_with_first(self):
        buys = numbered("buy", (30, 4), (20, 6), (10, 5))
        sells = numbered("sell", (5, 3), (15, 5), (25, 2))
        trades = [("b0", "s0", 3), ("b0", "s1", 1), ("b1", "s1", 4)]
        self.assert_called(buys, sells, 15, 15, trades, [fresh(buys[1], 2), buys[2]], sells[2:])
        self.assert_called(buys, sells, 20, 20, trades, [fresh(buys[1], 2), buys[2]], sells[2:])

    def test_more_is_wanted_or_offered_than_the_volume(self):
        buys = numbered("buy", (20, 9))
        sells = numbered("sell", (20, 4), (21, 9))
        self.assert_called(buys, sells, 20, 20, [("b0", "s0", 4)], [fresh(buys[0], 5)], sells[1:])
        buys = numbered("buy", (20, 4), (19, 9))
        sells = numbered("sell", (20, 9))
        self.assert_called(buys, sells, 20, 20, [("b0", "s0", 4)], buys[1:], [fresh(sells[0], 5)])

    def test_orders_wholly_traded_are_gone(self):
        self.assert_called(numbered("buy", (20, 5)), numbered("sell", (20, 5)), 20, 20, [("b0", "s0", 5)], [], [])
        self.assert_called(numbered("buy", (21, 2), (20, 3)), numbered("sell", (18, 1), (19, 4)), 20, 20,
                           [("b0", "s0", 1), ("b0", "s1", 1), ("b1", "s1", 3)], [], [])

    def test_of_equal_prices_the_earlier_one_goes_first(self):
        buys = numbered("buy", (20, 2), (20, 2), (20, 2))
        sells = numbered("sell", (20, 3))
        self.assert_called(buys, sells, 20, 20, [("b0", "s0", 2), ("b1", "s0", 1)], [fresh(buys[1], 1), buys[2]], [])
        buys, sells = numbered("buy", (20, 3)), numbered("sell", (20, 2), (20, 2), (20, 2))
        self.assert_called(buys, sells, 20, 20, [("b0", "s0", 2), ("b0", "s1", 1)], [], [fresh(sells[1], 1), sells[2]])

    def test_a_part_traded_keeps_its_place_and_is_made_anew(self):
        buys = numbered("buy", (20, 16, 4), (20, 5))
        sells = numbered("sell", (20, 6))
        # Its peak is used up within the call: it does not go behind the other one for that.
        self.assert_called(buys, sells, 20, 20, [("b0", "s0", 6)],
                           [("b0", "ann", "buy", 20, 10, 4, 4), buys[1]], [])
        self.assert_called(buys, numbered("sell", (20, 4)), 20, 20, [("b0", "s0", 4)],
                           [("b0", "ann", "buy", 20, 12, 4, 4), buys[1]], [])
        self.assert_called(buys, numbered("sell", (20, 13)), 20, 20, [("b0", "s0", 13)],
                           [("b0", "ann", "buy", 20, 3, 3, 4), buys[1]], [])

    def test_a_part_traded_shows_its_peak_anew(self):
        part = filled(made("b0", "ann", "buy", 20, 16, 4), 3)
        self.assertEqual(part[5], 1)
        self.assert_called([part], numbered("sell", (20, 1)), 20, 20, [("b0", "s0", 1)],
                           [("b0", "ann", "buy", 20, 12, 4, 4)], [])
        part = filled(made("s0", "ann", "sell", 20, 16, 4), 3)
        self.assert_called(numbered("buy", (20, 2)), [part], 20, 20, [("b0", "s0", 2)],
                           [], [("s0", "ann", "sell", 20, 11, 4, 4)])

    def test_an_order_that_traded_nothing_stays_with_what_it_showed(self):
        part = filled(made("b1", "ann", "buy", 20, 16, 4), 3)
        less = lessened(made("b2", "ann", "buy", 20, 16, 4), 2)
        other = filled(made("s1", "ann", "sell", 30, 16, 4), 2)
        buys = [buy("b0", 20, 5), part, less]
        self.assert_called(buys, [sell("s0", 20, 5), other], 20, 20, [("b0", "s0", 5)], [part, less], [other])

    def test_hidden_parts_are_traded_in_one(self):
        buys, sells = numbered("buy", (20, 16, 1)), numbered("sell", (10, 16, 3))
        self.assert_called(buys, sells, 10, 10, [("b0", "s0", 16)], [], [])

    def test_a_house_meets_itself(self):
        self.assert_called([buy("b1", 20, 3, who="ann")], [sell("s1", 20, 3, who="ann")], 20, 20, [("b1", "s1", 3)],
                           [], [])

    def test_no_price(self):
        part = filled(made("b0", "ann", "buy", 20, 16, 4), 3)
        other = filled(made("s0", "ann", "sell", 21, 16, 4), 2)
        for buys, sells in [([], []), ([part], []), ([], [other]), ([part], [other])]:
            self.assert_called(buys, sells, 20, None, [], buys, sells)

    def test_the_told_lines_are_others_than_the_handed_ones(self):
        for buys, sells in [([], []), (numbered("buy", (20, 5)), []), ([], numbered("sell", (20, 5))),
                            (numbered("buy", (20, 5)), numbered("sell", (20, 5), (30, 5)))]:
            told = called(buys, sells, 20)
            lists = [buys, sells, told[1], told[2], told[3]]
            for one, other in itertools.combinations(lists, 2):
                self.assertIsNot(one, other)

    def test_longest_lines(self):
        buys = numbered("buy", *[(1000 + place, 7) for place in range(300)])
        sells = numbered("sell", *[(1000 + place, 5) for place in range(300)])
        price, trades, buys_behind, sells_behind = called(buys, sells, 1)
        # At 1174 there are wanted 882 and offered 875, at 1175 wanted 875 and offered 880.
        self.assertEqual(price, 1175)
        self.assertEqual(sum(amount for buyer, seller, amount in trades), 875)
        self.assertEqual(trades[:3], [("b299", "s0", 5), ("b299", "s1", 2), ("b298", "s1", 3)])
        self.assertEqual(buys_behind, buys[125:])
        self.assertEqual(sells_behind, sells[175:])


def prices_by_words(buys, sells):
    return sorted(set([order[3] for order in buys] + [order[3] for order in sells]))


def price_by_words(buys, sells, near):
    """Point 16 by striking out, one rule behind the other."""
    def least(prices, number):
        return [price for price in prices if number(price) == min(number(other) for other in prices)]

    def want(price):
        return sum(order[4] for order in buys if price <= order[3])

    def offer(price):
        return sum(order[4] for order in sells if price >= order[3])

    prices = prices_by_words(buys, sells)
    prices = [price for price in prices if min(want(price), offer(price)) > 0]
    prices = least(prices, lambda price: -min(want(price), offer(price)))
    prices = least(prices, lambda price: max(want(price), offer(price)) - min(want(price), offer(price)))
    prices = least(prices, lambda price: max(near - price, price - near))
    return prices[0] if prices else None


def singles(line):
    return [order[0] for order in line for one in range(order[4])]


def trades_by_words(buys, sells, price):
    """Point 17 single by single: the nth one that is wanted goes to the nth one that is offered."""
    if price is None:
        return []
    volume = min(len(singles([order for order in buys if order[3] >= price])),
                 len(singles([order for order in sells if order[3] <= price])))
    pairs = list(zip(singles(buys), singles(sells)))[:volume]
    return [(pair[0], pair[1], len(list(group))) for pair, group in itertools.groupby(pairs)]


def behind_by_words(line, place, trades):
    behind = []
    for order in line:
        amount = sum(trade[2] for trade in trades if trade[place] == order[0])
        if amount == 0:
            behind.append(order)
        elif amount < order[4]:
            left = order[4] - amount
            shown = left if order[6] == 0 else min(left, order[6])
            behind.append(order[:4] + (left, shown, order[6]))
    return behind


class AllSmallTest(unittest.TestCase):
    def lines(self, side):
        parts = [(price, amount) for price in [10, 11, 13] for amount in [1, 2, 3]]
        hidden = [(price, 4, 2) for price in [10, 13]]
        line = [[]] + [[part] for part in parts + hidden]
        line += [list(pair) for pair in itertools.product(parts[::2] + hidden, repeat=2)]
        return [numbered(side, *few) for few in line]

    def test_each_call_by_its_words(self):
        for buys, sells in itertools.product(self.lines("buy"), self.lines("sell")):
            for near in [1, 11, 12, 20]:
                price = price_by_words(buys, sells, near)
                trades = trades_by_words(buys, sells, price)
                told = called(buys, sells, near)
                self.assertEqual(told, (price, trades, behind_by_words(buys, 0, trades),
                                        behind_by_words(sells, 1, trades)))
                self.assertEqual(call_price(buys, sells, near), price)
                self.assertEqual(across(told[2], told[3]), [])

    def test_a_call_behind_a_call_has_no_price(self):
        for buys, sells in itertools.product(self.lines("buy")[:20], self.lines("sell")[:20]):
            behind = called(buys, sells, 11)
            self.assertEqual(called(behind[2], behind[3], 11), (None, [], behind[2], behind[3]))
            self.assertTrue(set(names(behind[2])) <= set(names(buys)))


if __name__ == "__main__":
    unittest.main()
