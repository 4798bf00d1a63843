"""Points 2, 5, 6 and 32: a holding torn up against the others' holdings that go the other way."""

import itertools
import unittest
from fractions import Fraction

from bellbook.errors import BadNumber, Unheld
from bellbook.tear import torn

GREAT = 10 ** 60 - 1


class TornTest(unittest.TestCase):
    def assert_torn(self, hold, others, expected):
        """Also the other way about, where all signs are turned."""
        for sign in [1, -1]:
            turned = [(who, sign * other) for who, other in others]
            handed = list(turned)
            with self.subTest(hold=sign * hold, others=turned):
                told = torn(sign * hold, handed)
                self.assertEqual(told, expected)
                self.assertEqual([type(told)] + [type(part) for part in told], [list] + [tuple] * len(told))
                self.assertEqual(handed, turned)
                told.append(("x", 1))
                self.assertEqual(torn(hold=sign * hold, others=handed), expected)

    def assert_refused(self, error, hold, others):
        handed = list(others)
        with self.subTest(hold=hold, others=others), self.assertRaises(error):
            torn(hold, handed)
        self.assertEqual(handed, others)

    def test_one_other(self):
        self.assert_torn(5, [("ann", -5)], [("ann", 5)])
        self.assert_torn(5, [("ann", -9)], [("ann", 5)])
        self.assert_torn(1, [("ann", -1)], [("ann", 1)])

    def test_even_shares(self):
        self.assert_torn(6, [("ann", -2), ("bob", -4), ("cyd", -6)], [("ann", 1), ("bob", 2), ("cyd", 3)])
        self.assert_torn(4, [("ann", -4), ("bob", -4)], [("ann", 2), ("bob", 2)])

    def test_the_greatest_rests(self):
        self.assert_torn(5, [("ann", -1), ("bob", -3), ("cyd", -3)], [("ann", 1), ("bob", 2), ("cyd", 2)])
        self.assert_torn(7, [("ann", -5), ("bob", -3), ("cyd", -1)], [("ann", 4), ("bob", 2), ("cyd", 1)])
        self.assert_torn(3, [("ann", -10), ("bob", -4), ("cyd", -4)], [("ann", 2), ("bob", 1)])

    def test_of_equal_rests_the_earlier_in_the_list_goes_first(self):
        self.assert_torn(1, [("ann", -5), ("bob", -5)], [("ann", 1)])
        self.assert_torn(1, [("bob", -5), ("ann", -5)], [("bob", 1)])
        self.assert_torn(5, [("cyd", -3), ("ann", -3), ("bob", -3)], [("cyd", 2), ("ann", 2), ("bob", 1)])

    def test_those_of_the_same_way_and_of_nought_have_no_part(self):
        self.assert_torn(5, [("ann", 9), ("bob", -5), ("cyd", 0), ("dan", 1)], [("bob", 5)])
        self.assert_torn(4, [("ann", -2), ("bob", 100), ("cyd", -2), ("dan", 0), ("eve", -4)],
                         [("ann", 1), ("cyd", 1), ("eve", 2)])
        self.assert_torn(1, [("ann", 3), ("bob", 0), ("cyd", -7), ("dan", -7)], [("cyd", 1)])

    def test_the_order_of_the_others_and_not_of_the_names(self):
        self.assert_torn(6, [("dan", -1), ("ann", -2), ("cyd", 4), ("bob", -3)], [("dan", 1), ("ann", 2), ("bob", 3)])

    def test_parts_of_nought_are_not_told(self):
        self.assert_torn(1, [("ann", -1), ("bob", -2), ("cyd", -4)], [("cyd", 1)])
        self.assert_torn(2, [("ann", -1), ("bob", -50), ("cyd", -1), ("dan", -50)], [("bob", 1), ("dan", 1)])

    def test_all_that_the_others_hold(self):
        self.assert_torn(6, [("ann", -1), ("bob", -2), ("cyd", -3)], [("ann", 1), ("bob", 2), ("cyd", 3)])
        self.assert_torn(GREAT, [("ann", 1 - GREAT), ("bob", 5), ("cyd", -1)], [("ann", GREAT - 1), ("cyd", 1)])

    def test_great_numbers(self):
        self.assert_torn(10 ** 50, [("ann", -GREAT), ("bob", -GREAT), ("cyd", -GREAT)],
                         [("ann", 10 ** 50 // 3 + 1), ("bob", 10 ** 50 // 3), ("cyd", 10 ** 50 // 3)])

    def test_all_small_ones(self):
        for hold in range(1, 7):
            for count in [1, 2, 3, 4]:
                for parts in itertools.product(range(-3, 3), repeat=count):
                    others = list(zip(["dan", "ann", "cyd", "bob"], parts))
                    sizes = {who: -other for who, other in others if other < 0}
                    if sum(sizes.values()) < hold:
                        self.assert_refused(Unheld, hold, others)
                        self.assert_refused(Unheld, -hold, [(who, -other) for who, other in others])
                    else:
                        self.assert_dealt(hold, others, sizes)

    def assert_dealt(self, hold, others, sizes):
        told = torn(hold, others)
        self.assertEqual(torn(-hold, [(who, -other) for who, other in others]), told)
        self.assertEqual([who for who, other in others if who in dict(told)], [who for who, part in told])
        self.assertEqual(sum(part for who, part in told), hold)
        for who, part in told:
            self.assertGreaterEqual(part, 1)
            self.assertLessEqual(part, sizes[who])
        for who, size in sizes.items():
            self.assertLess(abs(Fraction(hold * size, sum(sizes.values())) - dict(told).get(who, 0)), 1)

    def test_no_holding(self):
        for others in [[], [("ann", 1)], [("ann", -1)], [("ann", 0)], [("ann", -5), ("bob", 5)]]:
            self.assert_refused(BadNumber, 0, others)

    def test_unheld(self):
        for hold, others in [(1, []), (1, [("ann", 0)]), (1, [("ann", 9)]), (5, [("ann", -4)]), (5, [("ann", 5)]),
                             (7, [("ann", -1), ("bob", -2), ("cyd", -3)]), (7, [("ann", -6), ("bob", 9)]),
                             (GREAT, [("ann", 1 - GREAT), ("bob", GREAT)])]:
            self.assert_refused(Unheld, hold, others)
            self.assert_refused(Unheld, -hold, [(who, -other) for who, other in others])

    def test_many_others(self):
        others = [("n" + str(place), -2 if place % 2 else 3) for place in range(5000)]
        # What unlike lists of that length differ in would take minutes to be shown, so they are compared by assertTrue.
        self.assertTrue(torn(5000, others) == [("n" + str(place), 2) for place in range(1, 5000, 2)])
        self.assertTrue(torn(-2500, others) == [("n" + str(place), 1) for place in range(0, 5000, 2)])
        self.assert_refused(Unheld, 5001, others)


if __name__ == "__main__":
    unittest.main()
