"""Points 2, 5 and 14: the four kinds of orders."""

import itertools
import unittest

from bellbook import kinds
from bellbook.errors import BadKind
from bellbook.kinds import Kind, Limit, Now, Quiet, Whole, entered, kind_of
from bellbook.meet import could, met
from bellbook.orders import filled
from tests.helper import buy, line_of, sell

CLASSES = {"limit": Limit, "now": Now, "whole": Whole, "quiet": Quiet}

LETS = list(itertools.product([True, False], [0, 1, 4, 5], [5]))


class KindTest(unittest.TestCase):
    def assert_lets(self, kind, expected):
        for crosses, amount, wanted in LETS:
            if crosses or amount == 0:
                with self.subTest(crosses=crosses, amount=amount, wanted=wanted):
                    self.assertIs(kind.lets(crosses, amount, wanted), expected(crosses, amount, wanted))
                    self.assertIs(kind.lets(crosses=crosses, amount=amount, wanted=wanted),
                                  expected(crosses, amount, wanted))

    def test_a_kind_lets_everything_in_and_keeps(self):
        self.assert_lets(Kind(), lambda crosses, amount, wanted: True)
        self.assertIs(Kind().keeps(), True)

    def test_limit(self):
        self.assert_lets(Limit(), lambda crosses, amount, wanted: True)
        self.assertIs(Limit().keeps(), True)

    def test_now(self):
        self.assert_lets(Now(), lambda crosses, amount, wanted: True)
        self.assertIs(Now().keeps(), False)

    def test_whole(self):
        self.assert_lets(Whole(), lambda crosses, amount, wanted: amount == wanted)
        self.assertIs(Whole().lets(True, 1, 1), True)
        self.assertIs(Whole().lets(True, 10 ** 9 - 1, 10 ** 9), False)
        self.assertIs(Whole().keeps(), False)

    def test_quiet(self):
        self.assert_lets(Quiet(), lambda crosses, amount, wanted: not crosses)
        self.assertIs(Quiet().keeps(), True)

    def test_each_stands_straight_under_kind(self):
        self.assertEqual(Kind.__bases__, (object,))
        for name in ["Limit", "Now", "Whole", "Quiet"]:
            self.assertEqual(getattr(kinds, name).__bases__, (Kind,))

    def test_kind_of(self):
        for word, kind in CLASSES.items():
            self.assertIs(type(kind_of(word)), kind)

    def test_bad_kind(self):
        for word in ["", "Limit", "limit ", " limit", "limit\n", "lim", "limits", "kind", "Kind", "open", "buy",
                     "NOW", "stop"]:
            with self.subTest(word=word), self.assertRaises(BadKind):
                kind_of(word)


class EnteredTest(unittest.TestCase):
    def assert_entered(self, word, order, line, last, leap, steps, behind, rest, halted):
        with self.subTest(word=word, order=order, line=line, last=last, leap=leap):
            handed = list(line)
            told = entered(word, order, handed, last, leap)
            self.assertEqual(told, (steps, behind, rest, halted))
            self.assertEqual(handed, line)
            self.assertIsNot(told[1], handed)
            self.assertIs(type(told), tuple)
            self.assertEqual([type(told[0]), type(told[1]), type(told[3])], [list, list, bool])
            told[0].append("more")
            told[1].append("more")
            self.assertEqual(handed, line)
            self.assertEqual(entered(word, order, handed, last, leap), (steps, behind, rest, halted))

    def assert_not_let_in(self, word, order, line, last, leap):
        self.assert_entered(word, order, line, last, leap, [("gone", order[0], order[4])], line, None, False)


class BadKindTest(EnteredTest):
    def test_bad_kind(self):
        line = line_of(sell("s1", 100, 5))
        for word in ["", "Limit", "limit ", "lim", "kind", "stop"]:
            for handed in [line, []]:
                kept = list(handed)
                with self.subTest(word=word), self.assertRaises(BadKind):
                    entered(word, buy("x", 100, 5), handed, 100, 10)
                self.assertEqual(handed, kept)


class LimitTest(EnteredTest):
    def test_into_the_empty_line(self):
        order = buy("x", 100, 5)
        self.assert_entered("limit", order, [], 100, 10, [], [], order, False)

    def test_nobody_is_met(self):
        order = buy("x", 100, 5)
        line = line_of(sell("s1", 101, 5))
        self.assert_entered("limit", order, line, 100, 10, [], line, order, False)

    def test_all_is_traded(self):
        self.assert_entered("limit", buy("x", 100, 5), line_of(sell("s1", 100, 5)), 100, 10,
                            [("trade", "s1", 100, 5)], [], None, False)
        self.assert_entered("limit", sell("x", 100, 5), line_of(buy("b1", 102, 5, 0, "cyd")), 100, 10,
                            [("trade", "b1", 102, 5)], [], None, False)

    def test_what_is_left_joins(self):
        self.assert_entered("limit", buy("x", 100, 8), line_of(sell("s1", 100, 5)), 100, 10,
                            [("trade", "s1", 100, 5)], [], ("x", "ann", "buy", 100, 3, 3, 0), False)
        self.assert_entered("limit", sell("x", 100, 8), line_of(buy("b1", 102, 5)), 100, 10,
                            [("trade", "b1", 102, 5)], [], ("x", "bob", "sell", 100, 3, 3, 0), False)

    def test_what_is_left_joins_where_the_meeting_was_halted(self):
        line = line_of(sell("s1", 105, 5), sell("s2", 111, 5))
        self.assert_entered("limit", buy("x", 120, 8), line, 100, 10,
                            [("trade", "s1", 105, 5)], line[1:], ("x", "ann", "buy", 120, 3, 3, 0), True)
        self.assert_entered("limit", buy("x", 120, 8), line[1:], 100, 10, [], line[1:], buy("x", 120, 8), True)

    def test_behind_shunned_orders(self):
        line = line_of(sell("s1", 100, 5, 0, "ann"))
        self.assert_entered("limit", buy("x", 100, 8), line, 100, 10, [("shun", "s1", 5)], [], buy("x", 100, 8), False)

    def test_what_joins_is_made_anew(self):
        line = line_of(sell("s1", 100, 5))
        for amount, left, shown in [(16, 11, 4), (9, 4, 4), (8, 3, 3), (6, 1, 1)]:
            self.assert_entered("limit", buy("x", 100, amount, 4), line, 100, 10, [("trade", "s1", 100, 5)], [],
                                ("x", "ann", "buy", 100, left, shown, 4), False)

    def test_a_part_of_its_peak_is_made_anew_too(self):
        part = filled(buy("x", 100, 16, 4), 3)
        self.assertEqual(part[4:], (13, 1, 4))
        self.assert_entered("limit", part, [], 100, 10, [], [], ("x", "ann", "buy", 100, 13, 4, 4), False)


class NowTest(EnteredTest):
    def test_into_the_empty_line(self):
        self.assert_entered("now", buy("x", 100, 5), [], 100, 10, [("gone", "x", 5)], [], None, False)

    def test_nobody_is_met(self):
        line = line_of(sell("s1", 101, 5))
        self.assert_entered("now", buy("x", 100, 5), line, 100, 10, [("gone", "x", 5)], line, None, False)

    def test_all_is_traded(self):
        self.assert_entered("now", buy("x", 100, 5), line_of(sell("s1", 100, 5)), 100, 10,
                            [("trade", "s1", 100, 5)], [], None, False)

    def test_what_is_left_is_gone(self):
        self.assert_entered("now", buy("x", 100, 8, 4), line_of(sell("s1", 100, 5)), 100, 10,
                            [("trade", "s1", 100, 5), ("gone", "x", 3)], [], None, False)

    def test_what_is_left_is_gone_where_the_meeting_was_halted(self):
        line = line_of(sell("s1", 105, 5), sell("s2", 111, 5))
        self.assert_entered("now", buy("x", 120, 8), line, 100, 10,
                            [("trade", "s1", 105, 5), ("gone", "x", 3)], line[1:], None, True)

    def test_behind_shunned_orders(self):
        line = line_of(sell("s1", 100, 5, 0, "ann"), sell("s2", 100, 2))
        self.assert_entered("now", buy("x", 100, 8), line, 100, 10,
                            [("shun", "s1", 5), ("trade", "s2", 100, 2), ("gone", "x", 6)], [], None, False)


class WholeTest(EnteredTest):
    def test_just_enough(self):
        line = line_of(sell("s1", 100, 5), sell("s2", 101, 3))
        self.assert_entered("whole", buy("x", 101, 8), line, 100, 10,
                            [("trade", "s1", 100, 5), ("trade", "s2", 101, 3)], [], None, False)
        self.assert_entered("whole", buy("x", 101, 7), line, 100, 10,
                            [("trade", "s1", 100, 5), ("trade", "s2", 101, 2)],
                            [("s2", "bob", "sell", 101, 1, 1, 0)], None, False)

    def test_one_too_few(self):
        line = line_of(sell("s1", 100, 5), sell("s2", 101, 3))
        self.assert_not_let_in("whole", buy("x", 101, 9), line, 100, 10)
        self.assert_not_let_in("whole", buy("x", 100, 6), line, 100, 10)

    def test_the_empty_line_and_a_limit_that_meets_nobody(self):
        self.assert_not_let_in("whole", buy("x", 101, 1), [], 100, 10)
        self.assert_not_let_in("whole", buy("x", 99, 1), line_of(sell("s1", 100, 5)), 100, 10)

    def test_hidden_parts_count(self):
        line = line_of(sell("s1", 100, 5, 2))
        self.assert_entered("whole", buy("x", 100, 5), line, 100, 10,
                            [("trade", "s1", 100, 2), ("trade", "s1", 100, 2), ("trade", "s1", 100, 1)],
                            [], None, False)
        self.assert_not_let_in("whole", buy("x", 100, 6), line, 100, 10)

    def test_all_that_it_wants_goes_by_no_peak_of_its_own(self):
        line = line_of(sell("s1", 100, 7))
        self.assert_not_let_in("whole", buy("x", 100, 8, 2), line, 100, 10)
        self.assert_entered("whole", buy("x", 100, 7, 2), line, 100, 10, [("trade", "s1", 100, 7)], [], None, False)

    def test_an_own_order_ahead_of_enough(self):
        line = line_of(sell("s1", 100, 5, 0, "ann"), sell("s2", 101, 3))
        self.assert_entered("whole", buy("x", 101, 3), line, 100, 10,
                            [("shun", "s1", 5), ("trade", "s2", 101, 3)], [], None, False)

    def test_an_own_order_ahead_of_one_too_few_is_not_shunned(self):
        line = line_of(sell("s1", 100, 5, 0, "ann"), sell("s2", 101, 3))
        self.assert_not_let_in("whole", buy("x", 101, 4), line, 100, 10)

    def test_a_halt_ahead_of_enough(self):
        line = line_of(sell("s1", 105, 5), sell("s2", 111, 5))
        self.assert_not_let_in("whole", buy("x", 120, 6), line, 100, 10)
        self.assert_not_let_in("whole", buy("x", 120, 5), line[1:], 100, 10)

    def test_enough_ahead_of_a_halt(self):
        line = line_of(sell("s1", 105, 5), sell("s2", 111, 5))
        self.assert_entered("whole", buy("x", 120, 5), line, 100, 10,
                            [("trade", "s1", 105, 5)], line[1:], None, False)

    def test_a_seller(self):
        line = line_of(buy("b1", 102, 2), buy("b2", 101, 2))
        self.assert_entered("whole", sell("x", 101, 4), line, 100, 10,
                            [("trade", "b1", 102, 2), ("trade", "b2", 101, 2)], [], None, False)
        self.assert_not_let_in("whole", sell("x", 102, 4), line, 100, 10)


class QuietTest(EnteredTest):
    def test_the_empty_line(self):
        for order in [buy("x", 100, 5), sell("x", 100, 5), buy("x", 100, 16, 4)]:
            self.assert_entered("quiet", order, [], 100, 10, [], [], order, False)

    def test_a_limit_that_does_not_allow_the_first_price(self):
        line = line_of(sell("s1", 101, 5))
        self.assert_entered("quiet", buy("x", 100, 5), line, 100, 10, [], line, buy("x", 100, 5), False)
        line = line_of(buy("b1", 99, 5), buy("b2", 98, 5))
        self.assert_entered("quiet", sell("x", 100, 5), line, 100, 10, [], line, sell("x", 100, 5), False)

    def test_a_limit_that_allows_the_first_price(self):
        line = line_of(sell("s1", 101, 5))
        self.assert_not_let_in("quiet", buy("x", 101, 5), line, 100, 10)
        self.assert_not_let_in("quiet", buy("x", 102, 3, 1), line, 100, 10)
        self.assert_not_let_in("quiet", sell("x", 99, 5), line_of(buy("b1", 99, 5)), 100, 10)

    def test_an_own_order_is_not_shunned(self):
        self.assert_not_let_in("quiet", buy("x", 101, 5), line_of(sell("s1", 101, 5, 0, "ann")), 100, 10)

    def test_nothing_is_halted(self):
        self.assert_not_let_in("quiet", buy("x", 150, 5), line_of(sell("s1", 120, 5)), 100, 10)
        line = line_of(sell("s1", 120, 5))
        self.assert_entered("quiet", buy("x", 119, 5), line, 100, 10, [], line, buy("x", 119, 5), False)

    def test_what_joins_is_made_anew(self):
        part = filled(buy("x", 100, 16, 4), 3)
        self.assert_entered("quiet", part, [], 100, 10, [], [], ("x", "ann", "buy", 100, 13, 4, 4), False)


class AllSmallTest(EnteredTest):
    def test_each_kind_by_what_meets(self):
        parts = [(price, left, peak, who) for price in [99, 100, 102] for left, peak in [(1, 0), (4, 2)]
                 for who in ["ann", "bob"]]
        for first, second in itertools.product(parts, repeat=2):
            line = line_of(sell("s1", *first), sell("s2", *second))
            for price, amount in itertools.product([98, 99, 101, 102], [1, 4, 5, 8]):
                for word in CLASSES:
                    self.assert_by_what_meets(word, buy("x", price, amount), line, 100, 1)

    def assert_by_what_meets(self, word, order, line, last, leap):
        steps, behind, left, halted = met(order, line, last, leap)
        amount = sum(step[3] for step in steps if step[0] == "trade")
        self.assertEqual(could(order, line, last, leap), amount)
        if (word == "whole" and left > 0) or (word == "quiet" and order[3] >= line[0][3]):
            self.assert_not_let_in(word, order, line, last, leap)
        elif left == 0:
            self.assert_entered(word, order, line, last, leap, steps, behind, None, False)
        elif word == "now":
            self.assert_entered(word, order, line, last, leap, steps + [("gone", "x", left)], behind, None, halted)
        else:
            rest = buy("x", order[3], left)
            self.assert_entered(word, order, line, last, leap, steps, behind, rest, halted)


if __name__ == "__main__":
    unittest.main()
