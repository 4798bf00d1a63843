"""Points 2, 6 and 7: dealing out and pouring."""

import itertools
import unittest
from fractions import Fraction

from bellbook.deal import poured, shares
from bellbook.errors import BadNumber, NoWeight

GREAT = 10 ** 60 - 1


def expected_shares(amount, weights):
    """Point 6 word by word, over broken numbers: the ones left over are given one by one."""
    even = [Fraction(amount * weight, sum(weights)) for weight in weights]
    told = [share.numerator // share.denominator for share in even]
    waiting = list(range(len(weights)))
    for turn in range(amount - sum(told)):
        best = waiting[0]
        for place in waiting:
            if even[place] - even[place].__floor__() > even[best] - even[best].__floor__():
                best = place
        waiting.remove(best)
        told[best] += 1
    return told


class SharesTest(unittest.TestCase):
    def assert_dealt(self, amount, weights):
        told = shares(amount, weights)
        self.assertIs(type(told), list)
        self.assertEqual(len(told), len(weights))
        self.assertEqual(sum(told), amount)
        for share, weight in zip(told, weights):
            self.assertIs(type(share), int)
            self.assertLess(abs(Fraction(amount * weight, sum(weights)) - share), 1)
            if amount <= sum(weights):
                self.assertLessEqual(share, weight)
        self.assertEqual(told, expected_shares(amount, weights))

    def test_even_shares(self):
        self.assertEqual(shares(10, [1, 1]), [5, 5])
        self.assertEqual(shares(12, [1, 2, 3]), [2, 4, 6])
        self.assertEqual(shares(6, [1, 2, 3]), [1, 2, 3])

    def test_the_left_over_ones_go_to_the_greatest_broken_parts(self):
        self.assertEqual(shares(10, [1, 2, 4]), [1, 3, 6])
        self.assertEqual(shares(5, [1, 3, 3]), [1, 2, 2])
        self.assertEqual(shares(7, [5, 3, 1]), [4, 2, 1])
        self.assertEqual(shares(1, [1, 2, 4]), [0, 0, 1])
        self.assertEqual(shares(100, [1, 1, 4]), [17, 17, 66])

    def test_a_greater_weight_may_have_a_lesser_broken_part(self):
        self.assertEqual(shares(3, [9, 4, 4]), [1, 1, 1])
        self.assertEqual(shares(4, [5, 2, 2]), [2, 1, 1])
        self.assertEqual(shares(3, [7, 2]), [2, 1])

    def test_of_equal_broken_parts_the_earlier_goes_first(self):
        self.assertEqual(shares(1, [1, 1]), [1, 0])
        self.assertEqual(shares(1, [5, 5, 5]), [1, 0, 0])
        self.assertEqual(shares(2, [5, 5, 5]), [1, 1, 0])
        self.assertEqual(shares(7, [1, 1, 1, 1]), [2, 2, 2, 1])
        self.assertEqual(shares(2, [3, 1, 3, 1]), [1, 0, 1, 0])
        self.assertEqual(shares(3, [1, 3, 1, 3]), [1, 1, 0, 1])

    def test_equal_broken_parts_of_unlike_weights(self):
        self.assertEqual(shares(1, [1, 3, 0]), [0, 1, 0])
        self.assertEqual(shares(2, [1, 3]), [1, 1])
        self.assertEqual(shares(2, [3, 1]), [2, 0])
        self.assertEqual(shares(3, [10, 4, 4]), [2, 1, 0])
        self.assertEqual(shares(3, [4, 4, 10]), [1, 1, 1])

    def test_an_amount_of_nought(self):
        self.assertEqual(shares(0, []), [])
        self.assertEqual(shares(0, [0]), [0])
        self.assertEqual(shares(0, [0, 0, 0]), [0, 0, 0])
        self.assertEqual(shares(0, [3, 0, 5]), [0, 0, 0])

    def test_weights_of_nought_get_nothing(self):
        self.assertEqual(shares(7, [0, 2, 0, 2, 0]), [0, 4, 0, 3, 0])
        self.assertEqual(shares(1, [0, 0, 1]), [0, 0, 1])

    def test_one_weight_gets_all(self):
        for amount in [0, 1, 7, GREAT]:
            for weight in [1, 2, 7, GREAT]:
                self.assertEqual(shares(amount, [weight]), [amount])

    def test_all_small_ones(self):
        for count in [1, 2, 3, 4]:
            for weights in itertools.product(range(5), repeat=count):
                if sum(weights) > 0:
                    for amount in range(12):
                        with self.subTest(amount=amount, weights=weights):
                            self.assert_dealt(amount, list(weights))

    def test_great_numbers(self):
        for amount, weights in [
            (10 ** 50, [1, 1, 1]),
            (10 ** 50 + 1, [3, 10 ** 50, 7]),
            (GREAT, [GREAT, GREAT - 1, GREAT - 2]),
            (GREAT - 1, [1, GREAT, 1]),
            (10 ** 59 + 7, [10 ** 59, 10 ** 59 + 1, 10 ** 58, 1, 0]),
            (2, [10 ** 55 + 1, 10 ** 55, 10 ** 55 + 2]),
        ]:
            with self.subTest(amount=amount, weights=weights):
                self.assert_dealt(amount, weights)

    def test_great_numbers_are_dealt_to_the_last_one(self):
        self.assertEqual(shares(10 ** 50, [1, 1, 1]), [33333333333333333333333333333333333333333333333334,
                                                       33333333333333333333333333333333333333333333333333,
                                                       33333333333333333333333333333333333333333333333333])
        self.assertEqual(shares(1, [10 ** 59, 10 ** 59 + 1]), [0, 1])

    def test_many_weights(self):
        told = shares(7499, [1] * 5000)
        self.assertEqual(told, [2] * 2499 + [1] * 2501)

    def test_below_nought(self):
        for amount, weights in [(-1, [1, 2]), (5, [1, -1]), (5, [-1, 3]), (5, [3, 1, -2]), (0, [-1]), (0, [1, -1]),
                                (-GREAT, [1]), (1, [-GREAT])]:
            with self.subTest(amount=amount, weights=weights), self.assertRaises(BadNumber):
                shares(amount, weights)

    def test_below_nought_goes_ahead_of_no_weight(self):
        for amount, weights in [(-1, []), (-1, [0]), (-1, [0, 0]), (5, [1, -1]), (5, [-2, 1, 1]), (5, [0, -1]),
                                (5, [-1, -1])]:
            with self.subTest(amount=amount, weights=weights), self.assertRaises(BadNumber):
                shares(amount, weights)

    def test_no_weight(self):
        for amount in [1, 2, GREAT]:
            for weights in [[], [0], [0, 0, 0]]:
                with self.subTest(amount=amount, weights=weights), self.assertRaises(NoWeight):
                    shares(amount, weights)

    def test_the_handed_list_stays(self):
        for amount, weights in [(5, [1, 2, 4]), (0, [3, 0]), (3, [1, 1, 1]), (6, [1, 2, 3])]:
            handed = list(weights)
            told = shares(amount, handed)
            self.assertIsNot(told, handed)
            told.append(99)
            told[0] = 77
            self.assertEqual(handed, weights)

    def test_the_handed_list_stays_where_it_is_refused(self):
        for amount, weights in [(-1, [2, 1]), (1, [2, -1]), (1, [0, 0])]:
            handed = list(weights)
            with self.assertRaises((BadNumber, NoWeight)):
                shares(amount, handed)
            self.assertEqual(handed, weights)

    def test_what_is_done_with_the_told_list_changes_nothing(self):
        for amount, weights in [(5, [1, 2, 4]), (0, [1, 2]), (0, [])]:
            first = shares(amount, weights)
            kept = list(first)
            first.append(99)
            second = shares(amount, weights)
            self.assertEqual(second, kept)
            self.assertIsNot(first, second)


class PouredTest(unittest.TestCase):
    def test_filled_up_in_their_order(self):
        self.assertEqual(poured(5, [3, 4]), ([3, 2], 0))
        self.assertEqual(poured(5, [4, 3]), ([4, 1], 0))
        self.assertEqual(poured(2, [3, 4]), ([2, 0], 0))
        self.assertEqual(poured(3, [3, 4]), ([3, 0], 0))
        self.assertEqual(poured(7, [3, 4]), ([3, 4], 0))
        self.assertEqual(poured(6, [1, 2, 3, 4]), ([1, 2, 3, 0], 0))

    def test_what_no_vessel_holds_is_left_over(self):
        self.assertEqual(poured(8, [3, 4]), ([3, 4], 1))
        self.assertEqual(poured(100, [1]), ([1], 99))

    def test_no_vessel(self):
        self.assertEqual(poured(0, []), ([], 0))
        self.assertEqual(poured(9, []), ([], 9))

    def test_nought(self):
        self.assertEqual(poured(0, [3, 4]), ([0, 0], 0))
        self.assertEqual(poured(4, [0, 3, 0, 3, 0]), ([0, 3, 0, 1, 0], 0))
        self.assertEqual(poured(4, [0, 0]), ([0, 0], 4))
        self.assertEqual(poured(0, [0]), ([0], 0))

    def test_all_small_ones(self):
        for count in [1, 2, 3]:
            for sizes in itertools.product(range(4), repeat=count):
                for amount in range(12):
                    with self.subTest(amount=amount, sizes=sizes):
                        self.assert_poured(amount, list(sizes))

    def assert_poured(self, amount, sizes):
        told, left = poured(amount, sizes)
        self.assertEqual(sum(told) + left, amount)
        self.assertEqual(left, max(0, amount - sum(sizes)))
        ahead = 0
        for part, size in zip(told, sizes, strict=True):
            self.assertEqual(part, max(0, min(size, amount - ahead)))
            ahead += size

    def test_great_numbers(self):
        self.assertEqual(poured(GREAT, [10 ** 59, 10 ** 59]), ([10 ** 59, 10 ** 59], GREAT - 2 * 10 ** 59))
        self.assertEqual(poured(10 ** 59, [1, GREAT]), ([1, 10 ** 59 - 1], 0))

    def test_the_kinds_of_what_is_told(self):
        told = poured(5, [3, 4])
        self.assertIs(type(told), tuple)
        self.assertEqual(len(told), 2)
        self.assertIs(type(told[0]), list)
        self.assertIs(type(told[1]), int)

    def test_below_nought(self):
        for amount, sizes in [(-1, [1, 2]), (-1, []), (5, [1, -1]), (5, [-1, 9]), (0, [-1]), (0, [4, -1]),
                              (2, [3, -1]), (-GREAT, [1])]:
            with self.subTest(amount=amount, sizes=sizes), self.assertRaises(BadNumber):
                poured(amount, sizes)

    def test_the_handed_list_stays(self):
        for amount, sizes in [(5, [3, 4]), (7, [3, 4]), (0, [0, 2]), (9, [3, 4]), (1, [])]:
            handed = list(sizes)
            told = poured(amount, handed)[0]
            self.assertIsNot(told, handed)
            told.append(99)
            self.assertEqual(handed, sizes)

    def test_what_is_done_with_the_told_list_changes_nothing(self):
        first = poured(5, [3, 4])
        first[0].append(99)
        self.assertEqual(poured(5, [3, 4]), ([3, 2], 0))


if __name__ == "__main__":
    unittest.main()
