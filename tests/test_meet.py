"""Points 2 and 13: the meeting of an order with the line of the other side."""

import itertools
import unittest

from bellbook.line import is_line
from bellbook.meet import could, met
from bellbook.orders import filled, fresh
from tests.helper import buy, line_of, sell

FAR = 10 ** 9


def mirrored(order):
    """The same order on the other side, its price mirrored about 100."""
    side = "sell" if order[2] == "buy" else "buy"
    return order[:2] + (side, 200 - order[3]) + order[4:]


def mirrored_steps(steps):
    return [step[:2] + (200 - step[2], step[3]) if step[0] == "trade" else step for step in steps]


def expected(order, line, last, leap):
    """Point 13 one single piece at a time, over lists of its own: (name, who, price, left, shown, peak)."""
    who, side, price, left = order[1:5]
    rows = [[row[0], row[1], row[3], row[4], row[5], row[6]] for row in line]
    steps = []
    while left > 0 and rows:
        first = rows[0]
        if (first[2] > price) if side == "buy" else (first[2] < price):
            break
        if first[1] == who:
            steps.append(("shun", first[0], first[3]))
            rows.pop(0)
            continue
        if not last - leap <= first[2] <= last + leap:
            return steps, rows, left, True
        amount = 0
        while left > 0 and first[4] > 0:
            amount += 1
            left -= 1
            first[3] -= 1
            first[4] -= 1
        steps.append(("trade", first[0], first[2], amount))
        if first[3] == 0:
            rows.pop(0)
        elif first[4] == 0:
            first[4] = min(first[5], first[3])
            rows.pop(0)
            place = sum(1 for row in rows if row[2] == first[2])
            rows.insert(place, first)
    return steps, rows, left, False


def traded(steps):
    return sum(step[3] for step in steps if step[0] == "trade")


class MeetTest(unittest.TestCase):
    def assert_met(self, order, line, last, leap, steps, behind, left, halted):
        """The same is told for the two sides exchanged."""
        self.assert_one(order, line, last, leap, steps, behind, left, halted)
        self.assert_one(mirrored(order), [mirrored(row) for row in line], 200 - last, leap,
                        mirrored_steps(steps), [mirrored(row) for row in behind], left, halted)

    def assert_one(self, order, line, last, leap, steps, behind, left, halted):
        with self.subTest(order=order, line=line, last=last, leap=leap):
            handed = list(line)
            told = met(order, handed, last, leap)
            self.assertEqual(told, (steps, behind, left, halted))
            self.assertEqual(could(order, handed, last, leap), order[4] - left)
            self.assertEqual(handed, line)
            self.assertIsNot(told[1], handed)
            self.assertIs(type(told[3]), bool)


class EndTest(MeetTest):
    def test_the_empty_line(self):
        self.assert_met(buy("x", 100, 5), [], 100, 10, [], [], 5, False)
        self.assert_met(buy("x", 100, 5), [], 100, 0, [], [], 5, False)

    def test_a_limit_that_does_not_allow_the_first_price(self):
        line = line_of(sell("s1", 101, 5))
        self.assert_met(buy("x", 100, 5), line, 100, 10, [], line, 5, False)
        self.assert_met(buy("x", 1, 5), line, 100, 10, [], line, 5, False)

    def test_a_limit_that_allows_the_first_price_just_so(self):
        line = line_of(sell("s1", 101, 5))
        self.assert_met(buy("x", 101, 5), line, 100, 10, [("trade", "s1", 101, 5)], [], 0, False)

    def test_a_limit_that_allows_the_first_price_and_not_the_second(self):
        line = line_of(sell("s1", 101, 5), sell("s2", 102, 5))
        self.assert_met(buy("x", 101, 8), line, 100, 10, [("trade", "s1", 101, 5)], line[1:], 3, False)

    def test_a_limit_that_does_not_allow_a_price_beyond_the_leap_is_not_halted(self):
        line = line_of(sell("s1", 120, 5))
        self.assert_met(buy("x", 119, 5), line, 100, 10, [], line, 5, False)

    def test_an_own_order_that_the_limit_does_not_allow_is_not_shunned(self):
        line = line_of(sell("s1", 101, 5, 0, "ann"))
        self.assert_met(buy("x", 100, 5), line, 100, 10, [], line, 5, False)

    def test_the_line_comes_to_its_end(self):
        line = line_of(sell("s1", 99, 2), sell("s2", 101, 3))
        self.assert_met(buy("x", 105, 8), line, 100, 10,
                        [("trade", "s1", 99, 2), ("trade", "s2", 101, 3)], [], 3, False)


class TradeTest(MeetTest):
    def test_of_less_than_the_first_one_shows(self):
        line = line_of(sell("s1", 100, 5), sell("s2", 100, 5))
        self.assert_met(buy("x", 100, 4), line, 100, 0,
                        [("trade", "s1", 100, 4)], [("s1", "bob", "sell", 100, 1, 1, 0), line[1]], 0, False)

    def test_of_just_what_the_first_one_shows(self):
        line = line_of(sell("s1", 100, 5), sell("s2", 100, 5))
        self.assert_met(buy("x", 100, 5), line, 100, 0, [("trade", "s1", 100, 5)], line[1:], 0, False)

    def test_of_more_than_the_first_one_shows(self):
        line = line_of(sell("s1", 100, 5), sell("s2", 100, 5))
        self.assert_met(buy("x", 100, 6), line, 100, 0,
                        [("trade", "s1", 100, 5), ("trade", "s2", 100, 1)],
                        [("s2", "bob", "sell", 100, 4, 4, 0)], 0, False)

    def test_at_the_price_of_the_one_in_line(self):
        line = line_of(sell("s1", 90, 1), sell("s2", 95, 1), sell("s3", 100, 1))
        self.assert_met(buy("x", 110, 3), line, 100, 50,
                        [("trade", "s1", 90, 1), ("trade", "s2", 95, 1), ("trade", "s3", 100, 1)], [], 0, False)

    def test_an_order_with_a_peak_is_renewed_and_goes_behind(self):
        line = line_of(sell("s1", 100, 10, 3), sell("s2", 100, 2), sell("s3", 101, 1))
        self.assert_met(buy("x", 100, 4), line, 100, 5,
                        [("trade", "s1", 100, 3), ("trade", "s2", 100, 1)],
                        [("s2", "bob", "sell", 100, 1, 1, 0), ("s1", "bob", "sell", 100, 7, 3, 3), line[2]], 0, False)

    def test_an_order_with_a_peak_is_met_again(self):
        line = line_of(sell("s1", 100, 8, 3), sell("s2", 100, 2), sell("s3", 101, 1))
        self.assert_met(buy("x", 101, 20), line, 100, 5,
                        [("trade", "s1", 100, 3), ("trade", "s2", 100, 2), ("trade", "s1", 100, 3),
                         ("trade", "s1", 100, 2), ("trade", "s3", 101, 1)], [], 9, False)

    def test_just_what_is_shown_renews_it_though_nothing_more_is_wanted(self):
        line = line_of(sell("s1", 100, 8, 3), sell("s2", 100, 2))
        self.assert_met(buy("x", 100, 3), line, 100, 5, [("trade", "s1", 100, 3)],
                        [line[1], ("s1", "bob", "sell", 100, 5, 3, 3)], 0, False)

    def test_nothing_of_the_incoming_order_is_hidden(self):
        line = line_of(sell("s1", 100, 16))
        self.assert_met(buy("x", 100, 12, 1), line, 100, 5, [("trade", "s1", 100, 12)],
                        [("s1", "bob", "sell", 100, 4, 4, 0)], 0, False)

    def test_the_incoming_order_goes_by_what_it_wants(self):
        part = filled(buy("x", 100, 16, 4), 3)
        self.assert_met(part, line_of(sell("s1", 100, 20)), 100, 5, [("trade", "s1", 100, 13)],
                        [("s1", "bob", "sell", 100, 7, 7, 0)], 0, False)

    def test_several_houses(self):
        line = line_of(sell("s1", 100, 1, 0, "bob"), sell("s2", 100, 1, 0, "cyd"), sell("s3", 100, 1, 0, "dan"))
        self.assert_met(buy("x", 100, 3), line, 100, 0,
                        [("trade", "s1", 100, 1), ("trade", "s2", 100, 1), ("trade", "s3", 100, 1)], [], 0, False)

    def test_the_greatest_amounts(self):
        line = line_of(sell("s1", 1, FAR), sell("s2", FAR, FAR))
        self.assert_one(buy("x", FAR, FAR), line, 1, 0, [("trade", "s1", 1, FAR)], line[1:], 0, False)
        self.assert_one(buy("x", FAR, FAR), line[1:], 1, FAR - 1, [("trade", "s2", FAR, FAR)], [], 0, False)
        self.assert_one(buy("x", FAR, FAR), line[1:], 1, FAR - 2, [], line[1:], FAR, True)

    def test_the_greatest_line(self):
        line = line_of(*[sell("s%d" % place, 100, 16, 1) for place in range(300)])
        steps, behind, left, halted = met(buy("x", 100, 5000), line, 100, 0)
        self.assertEqual(steps, [("trade", "s%d" % place, 100, 1) for place in range(300)] * 16)
        self.assertEqual((behind, left, halted), ([], 200, False))
        self.assertEqual(could(buy("x", 100, 5000), line, 100, 0), 4800)
        self.assertEqual(could(buy("x", 100, 4799), line, 100, 0), 4799)


class ShunTest(MeetTest):
    def test_an_own_order_that_is_first(self):
        line = line_of(sell("s1", 100, 7, 0, "ann"), sell("s2", 100, 5))
        self.assert_met(buy("x", 100, 5), line, 100, 0,
                        [("shun", "s1", 7), ("trade", "s2", 100, 5)], [], 0, False)

    def test_with_all_that_it_wants(self):
        line = line_of(sell("s1", 100, 16, 4, "ann"), sell("s2", 101, 5, 0, "ann"))
        self.assert_met(buy("x", 101, 1), line, 100, 5, [("shun", "s1", 16), ("shun", "s2", 5)], [], 1, False)
        part = [filled(line[0], 3)]
        self.assert_met(buy("x", 101, 1), part, 100, 5, [("shun", "s1", 13)], [], 1, False)

    def test_further_behind(self):
        line = line_of(sell("s1", 100, 3), sell("s2", 100, 7, 0, "ann"), sell("s3", 101, 5))
        self.assert_met(buy("x", 101, 5), line, 100, 5,
                        [("trade", "s1", 100, 3), ("shun", "s2", 7), ("trade", "s3", 101, 2)],
                        [("s3", "bob", "sell", 101, 3, 3, 0)], 0, False)

    def test_not_where_nothing_more_is_wanted(self):
        line = line_of(sell("s1", 100, 3), sell("s2", 100, 7, 0, "ann"))
        self.assert_met(buy("x", 101, 3), line, 100, 5, [("trade", "s1", 100, 3)], line[1:], 0, False)

    def test_between_two_trades_with_a_renewed_one(self):
        line = line_of(sell("s1", 100, 5, 3), sell("s2", 100, 7, 0, "ann"))
        self.assert_met(buy("x", 100, 9), line, 100, 5,
                        [("trade", "s1", 100, 3), ("shun", "s2", 7), ("trade", "s1", 100, 2)], [], 4, False)

    def test_an_own_order_beyond_the_leap_is_shunned_and_not_halted(self):
        line = line_of(sell("s1", 120, 7, 0, "ann"))
        self.assert_met(buy("x", 130, 5), line, 100, 10, [("shun", "s1", 7)], [], 5, False)
        line = line_of(sell("s1", 120, 7, 0, "ann"), sell("s2", 120, 4))
        self.assert_met(buy("x", 130, 5), line, 100, 10, [("shun", "s1", 7)], line[1:], 5, True)

    def test_the_house_is_looked_at_and_not_the_name(self):
        line = line_of(sell("ann", 100, 2, 0, "bob"))
        self.assert_met(buy("bob", 100, 2), line, 100, 0, [("trade", "ann", 100, 2)], [], 0, False)


class HaltTest(MeetTest):
    def test_at_the_leap_and_one_beyond_it(self):
        for last, leap, price, halted in [
            (100, 10, 110, False), (100, 10, 111, True), (100, 10, 90, False), (100, 10, 89, True),
            (100, 0, 100, False), (100, 0, 101, True), (100, 0, 99, True), (100, 1, 101, False), (100, 1, 99, False),
        ]:
            line = line_of(sell("s1", price, 5))
            if halted:
                self.assert_met(buy("x", 150, 5), line, last, leap, [], line, 5, True)
            else:
                self.assert_met(buy("x", 150, 5), line, last, leap, [("trade", "s1", price, 5)], [], 0, False)

    def test_behind_some_trades(self):
        line = line_of(sell("s1", 105, 2), sell("s2", 110, 2), sell("s3", 111, 2), sell("s4", 112, 2))
        self.assert_met(buy("x", 150, 9), line, 100, 10,
                        [("trade", "s1", 105, 2), ("trade", "s2", 110, 2)], line[2:], 5, True)

    def test_the_last_price_stays_that_ahead_of_the_meeting(self):
        line = line_of(sell("s1", 108, 2), sell("s2", 116, 2))
        self.assert_met(buy("x", 150, 9), line, 100, 10, [("trade", "s1", 108, 2)], line[1:], 7, True)
        line = line_of(sell("s1", 91, 2), sell("s2", 109, 2))
        self.assert_met(buy("x", 150, 4), line, 100, 10,
                        [("trade", "s1", 91, 2), ("trade", "s2", 109, 2)], [], 0, False)

    def test_an_order_that_wants_nothing_more_is_not_halted(self):
        line = line_of(sell("s1", 105, 2), sell("s2", 111, 2))
        self.assert_met(buy("x", 150, 2), line, 100, 10, [("trade", "s1", 105, 2)], line[1:], 0, False)
        self.assert_met(buy("x", 150, 3), line, 100, 10, [("trade", "s1", 105, 2)], line[1:], 1, True)

    def test_the_limit_ends_it_ahead_of_the_halt(self):
        line = line_of(sell("s1", 105, 2), sell("s2", 111, 2))
        self.assert_met(buy("x", 110, 5), line, 100, 10, [("trade", "s1", 105, 2)], line[1:], 3, False)
        self.assert_met(buy("x", 111, 5), line, 100, 10, [("trade", "s1", 105, 2)], line[1:], 3, True)


class AllSmallTest(MeetTest):
    ORDERS = [sell("s", price, left, peak, who) for price in [99, 100, 101] for who in ["ann", "bob"]
              for left, peak in [(1, 0), (3, 0), (3, 1), (4, 3)]]

    def test_all_lines_of_two(self):
        incoming = [buy("x", price, amount) for price in [99, 100, 101] for amount in [1, 3, 5, 9]]
        for first, second in itertools.product(self.ORDERS, repeat=2):
            line = line_of(("s1",) + first[1:], ("s2",) + second[1:])
            for order in incoming:
                for last, leap in [(100, 0), (100, 1), (98, 2)]:
                    self.assert_as_expected(order, line, last, leap)

    def test_lines_of_four(self):
        orders = self.ORDERS
        for turn in range(400):
            picked = [orders[(turn * step + turn // 7 + step) % len(orders)] for step in [1, 5, 7, 11]]
            line = line_of(*[("s%d" % place,) + order[1:] for place, order in enumerate(picked)])
            for amount in [2, 6, 8, 20]:
                self.assert_as_expected(buy("x", 101, amount), line, 100, turn % 2)

    def assert_as_expected(self, order, line, last, leap):
        steps, rows, left, halted = expected(order, line, last, leap)
        behind = [(row[0], row[1], "sell", row[2], row[3], row[4], row[5]) for row in rows]
        self.assert_met(order, line, last, leap, steps, behind, left, halted)
        self.assertIs(is_line(behind, "sell"), True)
        self.assertEqual(traded(steps), order[4] - left)


class OwnTest(MeetTest):
    CASES = [
        (buy("x", 90, 5), line_of(sell("s1", 100, 5), sell("s2", 101, 5))),
        (buy("x", 100, 5), line_of(sell("s1", 100, 5), sell("s2", 101, 5))),
        (buy("x", 100, 3), line_of(sell("s1", 100, 5), sell("s2", 101, 5))),
        (buy("x", 101, 3), line_of(sell("s1", 100, 5, 0, "ann"), sell("s2", 101, 5))),
        (buy("x", 120, 30), line_of(sell("s1", 100, 5, 2), sell("s2", 120, 5))),
        (buy("x", 100, 5), []),
    ]

    def test_what_is_done_with_the_told_lists_changes_nothing(self):
        for order, line in self.CASES:
            handed = list(line)
            first = met(order, handed, 100, 10)
            kept = (list(first[0]), list(first[1]), first[2], first[3])
            first[0].append("more")
            first[1].append("more")
            self.assertEqual(handed, line)
            second = met(order, handed, 100, 10)
            self.assertEqual(second, kept)
            handed.append("more")
            self.assertEqual(second, kept)

    def test_the_told_lists_are_no_one_list(self):
        for order, line in self.CASES:
            first, second = met(order, line, 100, 10), met(order, line, 100, 10)
            lists = [first[0], first[1], second[0], second[1], line]
            for one, other in itertools.combinations(lists, 2):
                self.assertIsNot(one, other)

    def test_the_kinds_of_what_is_told(self):
        for order, line in self.CASES:
            told = met(order, line, 100, 10)
            self.assertIs(type(told), tuple)
            self.assertEqual([type(part) for part in told], [list, list, int, bool])
            for step in told[0]:
                self.assertIs(type(step), tuple)
            self.assertIs(type(could(order, line, 100, 10)), int)

    def test_could_leaves_the_line(self):
        for order, line in self.CASES:
            handed = list(line)
            could(order, handed, 100, 10)
            self.assertEqual(handed, line)


class CouldTest(unittest.TestCase):
    def test_up_to_a_halt(self):
        line = line_of(sell("s1", 100, 5), sell("s2", 111, 5), sell("s3", 111, 5, 0, "ann"))
        self.assertEqual(could(buy("x", 150, 20), line, 100, 10), 5)
        self.assertEqual(could(buy("x", 150, 20), line, 100, 11), 10)

    def test_no_more_than_is_wanted(self):
        line = line_of(sell("s1", 100, 5), sell("s2", 101, 5))
        for amount in [1, 4, 5, 6, 9, 10]:
            self.assertEqual(could(buy("x", 150, amount), line, 100, 10), amount)
        self.assertEqual(could(buy("x", 150, 11), line, 100, 10), 10)

    def test_hidden_parts_count_and_own_orders_do_not(self):
        line = line_of(sell("s1", 100, 5, 1), sell("s2", 100, 9, 0, "ann"), fresh(sell("s3", 101, 8, 2), 7))
        self.assertEqual(could(buy("x", 100, 50), line, 100, 10), 5)
        self.assertEqual(could(buy("x", 101, 50), line, 100, 10), 12)
        self.assertEqual(could(buy("x", 99, 50), line, 100, 10), 0)
        self.assertEqual(could(buy("x", 99, 50), [], 100, 10), 0)


if __name__ == "__main__":
    unittest.main()
