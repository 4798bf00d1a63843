"""Points 2, 8 and 10 to 12: lines."""

import itertools
import unittest

from bellbook.errors import BadNumber, NoOrder, Twice
from bellbook.line import is_line, joined, place_of, served, total, view, with_less, without
from bellbook.orders import filled, fresh, lessened, made
from tests.helper import buy, line_of, names, sell


def both_sides(*prices):
    """Orders o0, o1 .. of these prices, as buys and, mirrored about 10, as sells: both stand alike."""
    return [
        [buy("o%d" % place, price) for place, price in enumerate(prices)],
        [sell("o%d" % place, 20 - price) for place, price in enumerate(prices)],
    ]


class LineTest(unittest.TestCase):
    def assert_own(self, function, line, *arguments):
        """The handed line stays, the told one is another list, and what is done with it changes nothing."""
        handed = list(line)
        told = function(handed, *arguments)
        self.assertIs(type(told), list)
        self.assertIsNot(told, handed)
        self.assertEqual(handed, line)
        kept = list(told)
        told.append("more")
        told[0] = "other"
        self.assertEqual(handed, line)
        again = function(handed, *arguments)
        self.assertEqual(again, kept)
        handed.append("more")
        self.assertEqual(again, kept)

    def assert_refused(self, error, function, line, *arguments):
        handed = list(line)
        with self.subTest(line=line, arguments=arguments), self.assertRaises(error):
            function(handed, *arguments)
        self.assertEqual(handed, line)


class JoinedTest(LineTest):
    def test_into_the_empty_line(self):
        for order in [buy("b1", 10), sell("s1", 10), buy("b1", 10, 16, 3)]:
            self.assertEqual(joined([], order), [order])

    def test_a_buyer_of_a_greater_price_stands_ahead(self):
        line = line_of(buy("b1", 30), buy("b2", 20), buy("b3", 10))
        self.assertEqual(names(joined(line, buy("x", 31))), ["x", "b1", "b2", "b3"])
        self.assertEqual(names(joined(line, buy("x", 29))), ["b1", "x", "b2", "b3"])
        self.assertEqual(names(joined(line, buy("x", 11))), ["b1", "b2", "x", "b3"])
        self.assertEqual(names(joined(line, buy("x", 9))), ["b1", "b2", "b3", "x"])

    def test_a_seller_of_a_lesser_price_stands_ahead(self):
        line = line_of(sell("s1", 10), sell("s2", 20), sell("s3", 30))
        self.assertEqual(names(joined(line, sell("x", 9))), ["x", "s1", "s2", "s3"])
        self.assertEqual(names(joined(line, sell("x", 11))), ["s1", "x", "s2", "s3"])
        self.assertEqual(names(joined(line, sell("x", 29))), ["s1", "s2", "x", "s3"])
        self.assertEqual(names(joined(line, sell("x", 31))), ["s1", "s2", "s3", "x"])

    def test_of_equal_prices_the_earlier_one_stands_first(self):
        line = line_of(buy("b1", 30), buy("b2", 20), buy("b3", 20), buy("b4", 10))
        self.assertEqual(names(joined(line, buy("x", 30))), ["b1", "x", "b2", "b3", "b4"])
        self.assertEqual(names(joined(line, buy("x", 20))), ["b1", "b2", "b3", "x", "b4"])
        self.assertEqual(names(joined(line, buy("x", 10))), ["b1", "b2", "b3", "b4", "x"])
        line = line_of(sell("s1", 10), sell("s2", 20), sell("s3", 20), sell("s4", 30))
        self.assertEqual(names(joined(line, sell("x", 10))), ["s1", "x", "s2", "s3", "s4"])
        self.assertEqual(names(joined(line, sell("x", 20))), ["s1", "s2", "s3", "x", "s4"])
        self.assertEqual(names(joined(line, sell("x", 30))), ["s1", "s2", "s3", "s4", "x"])

    def test_neither_the_amount_nor_the_peak_nor_the_name_bears_on_the_place(self):
        line = line_of(buy("m", 20, 5), buy("z", 20, 900), buy("a", 20, 16, 1, "bob"))
        self.assertEqual(names(line), ["m", "z", "a"])
        self.assertEqual(names(joined(line, buy("b", 20, 1000))), ["m", "z", "a", "b"])

    def test_all_small_lines(self):
        for count in range(5):
            for prices in itertools.product([9, 10, 11], repeat=count):
                for orders in both_sides(*prices):
                    with self.subTest(orders=orders):
                        line = line_of(*orders)
                        self.assertEqual(names(line), ["o%d" % place for place in
                                                       sorted(range(count), key=lambda place: -prices[place])])
                        self.assertEqual(sorted(line), sorted(orders))

    def test_an_order_joins_as_it_is(self):
        part = filled(buy("x", 20, 16, 4), 3)
        self.assertEqual(joined([buy("b1", 30)], part)[1], ("x", "ann", "buy", 20, 13, 1, 4))

    def test_twice(self):
        line = line_of(buy("b1", 30), buy("b2", 20), buy("b3", 10))
        for name in ["b1", "b2", "b3"]:
            for price in [35, 30, 25, 20, 10, 5]:
                for who in ["ann", "bob"]:
                    self.assert_refused(Twice, joined, line, buy(name, price, 3, 0, who))
        self.assert_refused(Twice, joined, line, line[1])
        line = line_of(sell("s1", 10), sell("s2", 20))
        for name in ["s1", "s2"]:
            for price in [5, 10, 15, 20, 25]:
                self.assert_refused(Twice, joined, line, sell(name, price, 3, 0, "bob"))

    def test_a_name_that_is_a_part_of_another_one_is_another_name(self):
        line = line_of(buy("abc", 30, 5, 0, "bob"))
        for name in ["ab", "abcd", "bc", "bob", "buy"]:
            self.assertEqual(names(joined(line, buy(name, 20))), ["abc", name])

    def test_the_handed_line_stays(self):
        line = line_of(buy("b1", 30), buy("b2", 10))
        for price in [40, 30, 20, 10, 5]:
            self.assert_own(joined, line, buy("x", price))
        self.assert_own(joined, [], buy("x", 5))


class PlaceTest(LineTest):
    LINES = [
        line_of(buy("b1", 30), buy("b2", 20), buy("b3", 20)),
        line_of(sell("s1", 10), sell("s2", 20), sell("s3", 30)),
    ]

    def test_first_middle_and_last(self):
        for line in self.LINES:
            for place in [0, 1, 2]:
                told = place_of(line, line[place][0])
                self.assertEqual(told, place)
                self.assertIs(type(told), int)
        self.assertEqual(place_of([buy("b1", 30)], "b1"), 0)

    def test_no_order(self):
        for line in self.LINES + [[]]:
            for name in ["x", "ann", "buy", "sell", "b", "s", "b11", ""]:
                self.assert_refused(NoOrder, place_of, line, name)

    def test_the_handed_line_stays(self):
        for line in self.LINES:
            handed = list(line)
            place_of(handed, line[1][0])
            self.assertEqual(handed, line)


class WithoutTest(LineTest):
    def test_first_middle_and_last(self):
        for line in PlaceTest.LINES:
            first, middle, last = line
            self.assertEqual(without(line, first[0]), [middle, last])
            self.assertEqual(without(line, middle[0]), [first, last])
            self.assertEqual(without(line, last[0]), [first, middle])

    def test_the_only_one(self):
        self.assertEqual(without([buy("b1", 30)], "b1"), [])

    def test_no_order(self):
        for line in PlaceTest.LINES + [[]]:
            for name in ["x", "ann", "buy", "sell", "b", "s", ""]:
                self.assert_refused(NoOrder, without, line, name)

    def test_the_handed_line_stays(self):
        for line in PlaceTest.LINES:
            for order in line:
                self.assert_own(without, line, order[0])
        handed = [buy("b1", 30)]
        without(handed, "b1").append("more")
        self.assertEqual(handed, [buy("b1", 30)])


class WithLessTest(LineTest):
    LINE = line_of(buy("b1", 30, 7), filled(buy("b2", 20, 16, 4), 1), buy("b3", 20, 9, 2))

    def test_first_middle_and_last(self):
        first, middle, last = self.LINE
        self.assertEqual(with_less(self.LINE, "b1", 2), [("b1", "ann", "buy", 30, 2, 2, 0), middle, last])
        self.assertEqual(with_less(self.LINE, "b2", 5), [first, ("b2", "ann", "buy", 20, 5, 3, 4), last])
        self.assertEqual(with_less(self.LINE, "b3", 1), [first, middle, ("b3", "ann", "buy", 20, 1, 1, 2)])

    def test_it_shows_what_it_showed_or_all(self):
        for left, shown in [(15, 3), (14, 3), (4, 3), (3, 3), (2, 2), (1, 1)]:
            self.assertEqual(with_less(self.LINE, "b2", left)[1], ("b2", "ann", "buy", 20, left, shown, 4))

    def test_it_keeps_its_place_among_equal_prices(self):
        line = line_of(sell("s1", 10), sell("s2", 10), sell("s3", 10))
        for name in ["s1", "s2", "s3"]:
            self.assertEqual(names(with_less(line, name, 1)), ["s1", "s2", "s3"])

    def test_the_same_amount_changes_nothing(self):
        for order in self.LINE:
            self.assertEqual(with_less(self.LINE, order[0], order[4]), self.LINE)

    def test_no_order(self):
        for left in [1, 5]:
            self.assert_refused(NoOrder, with_less, self.LINE, "x", left)
            self.assert_refused(NoOrder, with_less, [], "b1", left)

    def test_no_order_goes_ahead_of_a_bad_number(self):
        for left in [0, -1, 10 ** 59]:
            self.assert_refused(NoOrder, with_less, self.LINE, "x", left)
            self.assert_refused(NoOrder, with_less, [], "b1", left)

    def test_bad_number(self):
        for order in self.LINE:
            for left in [0, -1, -order[4], order[4] + 1, 10 ** 59]:
                self.assert_refused(BadNumber, with_less, self.LINE, order[0], left)

    def test_the_handed_line_stays(self):
        for order in self.LINE:
            for left in [1, order[4]]:
                self.assert_own(with_less, self.LINE, order[0], left)


class ServedTest(LineTest):
    def test_a_part_of_what_is_shown(self):
        second = buy("b2", 30)
        line = line_of(buy("b1", 30, 7), second)
        self.assertEqual(served(line, 1), [("b1", "ann", "buy", 30, 6, 6, 0), second])
        self.assertEqual(served(line, 6), [("b1", "ann", "buy", 30, 1, 1, 0), second])
        line = line_of(buy("b1", 30, 16, 4), second)
        self.assertEqual(served(line, 1), [("b1", "ann", "buy", 30, 15, 3, 4), second])
        self.assertEqual(served(line, 3), [("b1", "ann", "buy", 30, 13, 1, 4), second])

    def test_all_that_is_wanted(self):
        second = sell("s2", 12)
        for first in [sell("s1", 10, 7), sell("s1", 12, 7), sell("s1", 12, 7, 7), fresh(sell("s1", 12, 7, 2), 1)]:
            self.assertEqual(served(line_of(first, second), first[5]), [second])
            self.assertEqual(served([first], first[5]), [])

    def test_a_renewed_order_goes_behind_the_last_one_of_its_price(self):
        second, third, fourth = sell("s2", 10), sell("s3", 10, 8, 2), sell("s4", 11)
        line = line_of(sell("s1", 10, 16, 4), second, third, fourth)
        self.assertEqual(served(line, 4), [second, third, ("s1", "bob", "sell", 10, 12, 4, 4), fourth])
        part = served(line, 3)
        self.assertEqual(names(part), ["s1", "s2", "s3", "s4"])
        self.assertEqual(served(part, 1), [second, third, ("s1", "bob", "sell", 10, 12, 4, 4), fourth])

    def test_a_renewed_buyer_goes_behind_the_last_one_of_its_price(self):
        second, third = buy("b2", 10), buy("b3", 9)
        line = line_of(buy("b1", 10, 7, 4), second, third)
        self.assertEqual(served(line, 4), [second, ("b1", "ann", "buy", 10, 3, 3, 4), third])

    def test_a_renewed_order_goes_behind_all_where_all_have_its_price(self):
        line = line_of(buy("b1", 10, 7, 4), buy("b2", 10), buy("b3", 10))
        self.assertEqual(names(served(line, 4)), ["b2", "b3", "b1"])

    def test_a_renewed_order_stays_first_where_it_is_alone_at_its_price(self):
        line = line_of(sell("s1", 10, 16, 4), sell("s2", 11), sell("s3", 11))
        self.assertEqual(served(line, 4), [("s1", "bob", "sell", 10, 12, 4, 4)] + line[1:])
        line = line_of(buy("b1", 10, 16, 4), buy("b2", 9))
        self.assertEqual(served(line, 4), [("b1", "ann", "buy", 10, 12, 4, 4)] + line[1:])
        self.assertEqual(served([buy("b1", 10, 5, 4)], 4), [("b1", "ann", "buy", 10, 1, 1, 4)])

    def test_a_lessened_order_that_wants_no_more_than_it_shows_is_not_renewed(self):
        first = lessened(sell("s1", 10, 16, 4), 4)
        self.assertEqual(served([first, sell("s2", 10)], 4), [sell("s2", 10)])

    def test_a_line_served_up_to_its_end(self):
        line = line_of(sell("s1", 10, 5, 2), sell("s2", 10, 3), sell("s3", 10, 4, 3), sell("s4", 11, 2, 1))
        seen = []
        while line:
            seen.append((line[0][0], line[0][5]))
            line = served(line, line[0][5])
            self.assertIs(is_line(line, "sell"), True)
        self.assertEqual(seen, [("s1", 2), ("s2", 3), ("s3", 3), ("s1", 2), ("s3", 1), ("s1", 1), ("s4", 1),
                                ("s4", 1)])

    def test_no_order(self):
        for amount in [1, 7, 0, -1, 10 ** 59]:
            self.assert_refused(NoOrder, served, [], amount)

    def test_bad_number(self):
        for first in [buy("b1", 30, 7), buy("b1", 30, 16, 4), filled(buy("b1", 30, 16, 4), 3)]:
            for line in [[first], line_of(first, buy("b2", 30, 100))]:
                for amount in [0, -1, -first[5], first[5] + 1, first[4] + 1, 10 ** 59]:
                    self.assert_refused(BadNumber, served, line, amount)

    def test_the_handed_line_stays(self):
        line = line_of(buy("b1", 30, 7, 4), buy("b2", 30))
        for amount in [1, 3, 4]:
            self.assert_own(served, line, amount)
        self.assert_own(served, line_of(buy("b1", 30, 4), buy("b2", 30)), 4)


class TotalTest(LineTest):
    def test_of_the_empty_line(self):
        self.assertEqual(total([]), 0)

    def test_hidden_parts_count(self):
        line = line_of(buy("b1", 30, 7), buy("b2", 30, 16, 4), filled(buy("b3", 20, 16, 4), 1))
        self.assertEqual(total(line), 7 + 16 + 15)
        self.assertEqual(total(line[:1]), 7)

    def test_great_amounts(self):
        self.assertEqual(total([sell("s%d" % place, 5, 10 ** 9) for place in range(300)]), 300 * 10 ** 9)

    def test_the_handed_line_stays(self):
        line = line_of(buy("b1", 30, 7), buy("b2", 20))
        handed = list(line)
        total(handed)
        self.assertEqual(handed, line)


class ViewTest(LineTest):
    def test_of_the_empty_line(self):
        self.assertEqual(view([]), [])
        view([]).append("more")
        self.assertEqual(view([]), [])

    def test_several_orders_at_one_price(self):
        line = line_of(buy("b1", 30, 7), buy("b2", 30, 2), buy("b3", 20, 4), buy("b4", 10, 1), buy("b5", 10, 1))
        self.assertEqual(view(line), [(30, 9), (20, 4), (10, 2)])

    def test_in_the_order_of_the_line(self):
        self.assertEqual(view(line_of(sell("s1", 10, 1), sell("s2", 20, 2), sell("s3", 30, 3))),
                         [(10, 1), (20, 2), (30, 3)])

    def test_hidden_parts_do_not_count(self):
        line = line_of(sell("s1", 10, 16, 4), sell("s2", 10, 7), filled(sell("s3", 10, 16, 4), 3), sell("s4", 11, 9, 2))
        self.assertEqual(view(line), [(10, 4 + 7 + 1), (11, 2)])

    def test_the_kinds_of_what_is_told(self):
        told = view(line_of(buy("b1", 30), buy("b2", 20)))
        self.assertIs(type(told), list)
        self.assertEqual([type(row) for row in told], [tuple, tuple])

    def test_the_handed_line_stays(self):
        self.assert_own(view, line_of(buy("b1", 30, 7), buy("b2", 30), buy("b3", 20)))


class IsLineTest(LineTest):
    def test_the_empty_list(self):
        self.assertIs(is_line([], "buy"), True)
        self.assertIs(is_line([], "sell"), True)

    def test_a_line_of_its_own_side_alone(self):
        buys = line_of(buy("b1", 30), buy("b2", 20), buy("b3", 20), buy("b4", 10))
        sells = line_of(sell("s1", 10), sell("s2", 20), sell("s3", 20), sell("s4", 30))
        self.assertIs(is_line(buys, "buy"), True)
        self.assertIs(is_line(sells, "sell"), True)
        self.assertIs(is_line(buys, "sell"), False)
        self.assertIs(is_line(sells, "buy"), False)
        self.assertIs(is_line([buy("b1", 30)], "buy"), True)
        self.assertIs(is_line([buy("b1", 30)], "sell"), False)

    def test_neighbours_exchanged(self):
        for prices, side in [([30, 20, 10], "buy"), ([10, 20, 30], "sell")]:
            orders = [made("o%d" % price, "ann", side, price, 5) for price in prices]
            for place in [0, 1]:
                changed = list(orders)
                changed[place], changed[place + 1] = orders[place + 1], orders[place]
                self.assertIs(is_line(changed, side), False)
            self.assertIs(is_line(orders, side), True)

    def test_equal_prices_exchanged(self):
        self.assertIs(is_line([buy("b2", 20), buy("b1", 20)], "buy"), True)
        self.assertIs(is_line([sell("b2", 20), sell("b1", 20)], "sell"), True)

    def test_an_order_of_the_other_side(self):
        for place in [0, 1, 2]:
            buys = [buy("b1", 20), buy("b2", 20), buy("b3", 20)]
            buys[place] = sell("s1", 20)
            self.assertIs(is_line(buys, "buy"), False)
            self.assertIs(is_line(buys, "sell"), False)

    def test_a_name_that_stands_twice(self):
        self.assertIs(is_line([buy("b1", 30), buy("b1", 20)], "buy"), False)
        self.assertIs(is_line([buy("b1", 30), buy("b1", 30)], "buy"), False)
        self.assertIs(is_line([buy("b1", 30), buy("b2", 30), buy("b1", 20, 4, 0, "bob")], "buy"), False)
        self.assertIs(is_line([sell("s1", 10), sell("s2", 20), sell("s2", 30)], "sell"), False)

    def test_all_small_lists(self):
        for count in range(4):
            for prices in itertools.product([1, 2, 3], repeat=count):
                for orders, side in zip(both_sides(*prices), ["buy", "sell"]):
                    with self.subTest(orders=orders):
                        self.assertIs(is_line(orders, side), list(prices) == sorted(prices, reverse=True))

    def test_the_handed_list_stays(self):
        for orders in [line_of(buy("b1", 30), buy("b2", 20)), [sell("s1", 30), buy("b2", 40)]]:
            handed = list(orders)
            is_line(handed, "buy")
            self.assertEqual(handed, orders)


if __name__ == "__main__":
    unittest.main()
