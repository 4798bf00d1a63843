"""Points 2, 5, 6, 7 and 33: how a loss is borne."""

import itertools
import unittest

from bellbook.bear import borne
from bellbook.deal import shares
from bellbook.errors import BadNumber

GREAT = 10 ** 60 - 1


def borne_by_words(loss, fund, chest, funds, worths):
    """Point 33 word by word: each one in turn, for what is still left."""
    left = loss
    own = min(left, fund)
    left -= own
    from_chest = min(left, chest)
    left -= from_chest
    from_funds = min(left, sum(funds))
    left -= from_funds
    able = [worth if worth > 0 else 0 for worth in worths]
    from_worths = min(left, sum(able))
    left -= from_worths
    return (own, from_chest, shares(from_funds, funds), shares(from_worths, able), left)


class BorneTest(unittest.TestCase):
    def assert_borne(self, loss, fund, chest, funds, worths, expected):
        handed = (list(funds), list(worths))
        with self.subTest(loss=loss, fund=fund, chest=chest, funds=funds, worths=worths):
            told = borne(loss, fund, chest, handed[0], handed[1])
            self.assertEqual(told, expected)
            self.assertEqual([type(told)] + [type(part) for part in told], [tuple, int, int, list, list, int])
            self.assertEqual(told[0] + told[1] + sum(told[2]) + sum(told[3]) + told[4], loss)
            self.assertEqual([len(told[2]), len(told[3])], [len(funds), len(worths)])
            told[2].append(99)
            told[3].append(98)
            self.assertEqual(handed, (funds, worths))
            self.assertEqual(borne(loss=loss, fund=fund, chest=chest, funds=handed[0], worths=handed[1]), expected)

    def test_the_own_part_alone(self):
        self.assert_borne(5, 9, 7, [3, 4], [10, 20], (5, 0, [0, 0], [0, 0], 0))
        self.assert_borne(9, 9, 7, [3, 4], [10, 20], (9, 0, [0, 0], [0, 0], 0))

    def test_the_chest_too(self):
        self.assert_borne(10, 9, 7, [3, 4], [10, 20], (9, 1, [0, 0], [0, 0], 0))
        self.assert_borne(16, 9, 7, [3, 4], [10, 20], (9, 7, [0, 0], [0, 0], 0))
        self.assert_borne(5, 0, 7, [3, 4], [10, 20], (0, 5, [0, 0], [0, 0], 0))

    def test_the_others_parts_too(self):
        self.assert_borne(17, 9, 7, [3, 4], [10, 20], (9, 7, [0, 1], [0, 0], 0))
        self.assert_borne(18, 9, 7, [3, 4], [10, 20], (9, 7, [1, 1], [0, 0], 0))
        self.assert_borne(23, 9, 7, [3, 4], [10, 20], (9, 7, [3, 4], [0, 0], 0))
        self.assert_borne(3, 0, 0, [5, 0, 5, 5], [1, 1, 1, 1], (0, 0, [1, 0, 1, 1], [0, 0, 0, 0], 0))
        self.assert_borne(2, 0, 0, [5, 0, 5, 5], [1, 1, 1, 1], (0, 0, [1, 0, 1, 0], [0, 0, 0, 0], 0))

    def test_the_others_worths_too(self):
        self.assert_borne(26, 9, 7, [3, 4], [10, 20], (9, 7, [3, 4], [1, 2], 0))
        self.assert_borne(24, 9, 7, [3, 4], [10, 20], (9, 7, [3, 4], [0, 1], 0))
        self.assert_borne(53, 9, 7, [3, 4], [10, 20], (9, 7, [3, 4], [10, 20], 0))
        self.assert_borne(4, 0, 0, [0, 0], [5, 5], (0, 0, [0, 0], [2, 2], 0))
        self.assert_borne(5, 0, 0, [0, 0], [5, 5], (0, 0, [0, 0], [3, 2], 0))

    def test_some_is_left_over(self):
        self.assert_borne(54, 9, 7, [3, 4], [10, 20], (9, 7, [3, 4], [10, 20], 1))
        self.assert_borne(100, 9, 7, [3, 4], [10, 20], (9, 7, [3, 4], [10, 20], 47))
        self.assert_borne(3, 0, 0, [0], [0], (0, 0, [0], [0], 3))

    def test_the_order_of_the_lists(self):
        self.assert_borne(12, 0, 0, [6, 1, 3], [0, 9, 1], (0, 0, [6, 1, 3], [0, 2, 0], 0))
        self.assert_borne(5, 0, 0, [6, 1, 3], [0, 9, 1], (0, 0, [3, 1, 1], [0, 0, 0], 0))

    def test_each_list_by_itself(self):
        # The parts of the fund are dealt out by these parts, the worths by the worths.
        self.assert_borne(14, 0, 0, [8, 2], [1, 9], (0, 0, [8, 2], [0, 4], 0))

    def test_worths_of_nought_and_below(self):
        self.assert_borne(6, 0, 0, [0, 0, 0, 0], [4, 0, -9, 8], (0, 0, [0, 0, 0, 0], [2, 0, 0, 4], 0))
        self.assert_borne(13, 0, 0, [0, 0, 0, 0], [4, 0, -9, 8], (0, 0, [0, 0, 0, 0], [4, 0, 0, 8], 1))
        self.assert_borne(7, 1, 1, [1, 0], [-1, -GREAT], (1, 1, [1, 0], [0, 0], 4))
        self.assert_borne(2, 0, 0, [1, 0], [-5, 3], (0, 0, [1, 0], [0, 1], 0))

    def test_no_others(self):
        self.assert_borne(5, 3, 1, [], [], (3, 1, [], [], 1))
        self.assert_borne(4, 3, 1, [], [], (3, 1, [], [], 0))
        self.assert_borne(0, 3, 1, [], [], (0, 0, [], [], 0))
        self.assert_borne(5, 0, 0, [], [], (0, 0, [], [], 5))

    def test_no_loss(self):
        self.assert_borne(0, 9, 7, [3, 4], [10, 20], (0, 0, [0, 0], [0, 0], 0))
        self.assert_borne(0, 0, 0, [0, 0], [0, -1], (0, 0, [0, 0], [0, 0], 0))

    def test_great_numbers(self):
        self.assert_borne(GREAT, 1, 2, [10 ** 50, 0], [GREAT, -GREAT],
                          (1, 2, [10 ** 50, 0], [GREAT - 3 - 10 ** 50, 0], 0))

    def test_all_small_ones(self):
        for loss, fund, chest in itertools.product([0, 1, 2, 3, 5, 8, 13], [0, 2], [0, 1]):
            for parts in itertools.product([0, 1, 3], [0, 2], [-2, 0, 3], [-1, 1, 4]):
                funds, worths = list(parts[:2]), list(parts[2:])
                self.assert_borne(loss, fund, chest, funds, worths,
                                  borne_by_words(loss, fund, chest, funds, worths))

    def test_below_nought(self):
        for loss, fund, chest, funds in [(-1, 9, 7, [3, 4]), (5, -1, 7, [3, 4]), (5, 9, -1, [3, 4]), (5, 9, 7, [-1, 4]),
                                         (5, 9, 7, [3, -1]), (0, 0, 0, [0, -1]), (-1, 0, 0, [0, 0]), (0, -1, 0, [0, 0]),
                                         (0, 0, -1, [0, 0]), (50, 9, 7, [30, -4]), (50, 9, 7, [-4, 30]),
                                         (-GREAT, 0, 0, [0, 0]), (0, 9, 7, [-30, 4])]:
            handed = (list(funds), [10, 20])
            with self.subTest(loss=loss, fund=fund, chest=chest, funds=funds), self.assertRaises(BadNumber):
                borne(loss, fund, chest, handed[0], handed[1])
            self.assertEqual(handed, (funds, [10, 20]))

    def test_below_nought_without_others(self):
        for loss, fund, chest in [(-1, 0, 0), (0, -1, 0), (0, 0, -1), (-1, 5, 5), (1, 5, -1), (9, -1, 5)]:
            with self.subTest(loss=loss, fund=fund, chest=chest), self.assertRaises(BadNumber):
                borne(loss, fund, chest, [], [])

    def test_many_others(self):
        told = borne(7500, 0, 0, [1] * 5000, [1, -1] * 2500)
        self.assertTrue(told == (0, 0, [1] * 5000, [1, 0] * 2500, 0))


if __name__ == "__main__":
    unittest.main()
