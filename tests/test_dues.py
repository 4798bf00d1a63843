"""Points 2, 3, 5, 27, 28 and 31: dues, nets and transfers."""

import itertools
import unittest

from bellbook.dues import net_of, nets, owed, transfers
from bellbook.errors import BadNumber
from tests.helper import Dice, book_of

GREAT = 10 ** 60 - 1
# In the order of the names.
NAMES = ["a", "a0", "a01", "a1", "a9", "aa", "ab", "b", "b10", "b2", "z"]


def sums_of(book):
    return {(debtor, creditor): amount for debtor, creditor, amount in book}


class BookCase(unittest.TestCase):
    def assert_book(self, book):
        """That it is a book as point 27 tells."""
        self.assertIs(type(book), list)
        for due in book:
            self.assertEqual([type(due)] + [type(part) for part in due], [tuple, str, str, int])
            self.assertNotEqual(due[0], due[1])
            self.assertGreaterEqual(due[2], 1)
        pairs = [frozenset(due[:2]) for due in book]
        self.assertEqual(len(pairs), len(set(pairs)))
        places = [(self.signs(due[0]), self.signs(due[1])) for due in book]
        self.assertEqual(places, sorted(places))

    def signs(self, name):
        return ["0123456789abcdefghijklmnopqrstuvwxyz".index(sign) for sign in name]


class OwedTest(BookCase):
    def assert_owed(self, book, due, expected):
        handed = list(book)
        with self.subTest(book=book, due=due):
            told = owed(handed, *due)
            self.assertEqual(told, expected)
            self.assert_book(told)
            self.assertIsNot(told, handed)
            self.assertEqual(handed, book)
            told.append(("x", "y", 1))
            self.assertEqual(handed, book)
            self.assertEqual(owed(handed, *due), expected)
            self.assertEqual(owed(book=handed, debtor=due[0], creditor=due[1], amount=due[2]), expected)

    def test_two_without_a_due(self):
        self.assert_owed([], ("ann", "bob", 5), [("ann", "bob", 5)])
        self.assert_owed([], ("bob", "ann", 1), [("bob", "ann", 1)])
        self.assert_owed([], ("ann", "bob", GREAT), [("ann", "bob", GREAT)])
        self.assert_owed([("ann", "bob", 5)], ("ann", "cyd", 2), [("ann", "bob", 5), ("ann", "cyd", 2)])
        self.assert_owed([("ann", "bob", 5)], ("cyd", "ann", 2), [("ann", "bob", 5), ("cyd", "ann", 2)])
        self.assert_owed([("ann", "bob", 5)], ("cyd", "dan", 2), [("ann", "bob", 5), ("cyd", "dan", 2)])

    def test_a_due_of_the_same_way(self):
        self.assert_owed([("ann", "bob", 5)], ("ann", "bob", 3), [("ann", "bob", 8)])
        self.assert_owed([("bob", "ann", 5)], ("bob", "ann", 1), [("bob", "ann", 6)])
        self.assert_owed([("ann", "bob", 1), ("ann", "cyd", 5), ("bob", "cyd", 7)], ("ann", "cyd", 3),
                         [("ann", "bob", 1), ("ann", "cyd", 8), ("bob", "cyd", 7)])
        self.assert_owed([("ann", "bob", GREAT)], ("ann", "bob", GREAT), [("ann", "bob", 2 * GREAT)])

    def test_a_due_of_the_other_way(self):
        for amount, expected in [(1, [("ann", "bob", 4)]), (4, [("ann", "bob", 1)]), (5, []),
                                 (6, [("bob", "ann", 1)]), (GREAT, [("bob", "ann", GREAT - 5)])]:
            self.assert_owed([("ann", "bob", 5)], ("bob", "ann", amount), expected)
        for amount, expected in [(4, [("bob", "ann", 1)]), (5, []), (6, [("ann", "bob", 1)])]:
            self.assert_owed([("bob", "ann", 5)], ("ann", "bob", amount), expected)

    def test_a_due_of_the_other_way_among_others(self):
        book = [("ann", "cyd", 5), ("bob", "ann", 7), ("cyd", "bob", 2)]
        self.assert_owed(book, ("cyd", "ann", 2), [("ann", "cyd", 3), ("bob", "ann", 7), ("cyd", "bob", 2)])
        self.assert_owed(book, ("cyd", "ann", 5), [("bob", "ann", 7), ("cyd", "bob", 2)])
        self.assert_owed(book, ("cyd", "ann", 9), [("bob", "ann", 7), ("cyd", "ann", 4), ("cyd", "bob", 2)])
        self.assert_owed(book, ("ann", "bob", 8), [("ann", "bob", 1), ("ann", "cyd", 5), ("cyd", "bob", 2)])
        self.assert_owed(book, ("bob", "cyd", 3), [("ann", "cyd", 5), ("bob", "ann", 7), ("bob", "cyd", 1)])

    def test_to_oneself_and_nought(self):
        for book in [[], [("ann", "bob", 5)], [("bob", "ann", 5), ("bob", "cyd", 1)]]:
            for due in [("ann", "ann", 5), ("ann", "ann", 0), ("zoe", "zoe", 1), ("ann", "bob", 0), ("bob", "ann", 0),
                        ("cyd", "dan", 0), ("ann", "ann", GREAT)]:
                self.assert_owed(book, due, book)

    def test_below_nought(self):
        for book in [[], [("ann", "bob", 5)]]:
            for due in [("ann", "bob", -1), ("bob", "ann", -1), ("ann", "ann", -1), ("cyd", "cyd", -GREAT),
                        ("ann", "bob", -5), ("ann", "cyd", -GREAT)]:
                handed = list(book)
                with self.subTest(book=book, due=due), self.assertRaises(BadNumber):
                    owed(handed, *due)
                self.assertEqual(handed, book)

    def test_the_order_of_the_names(self):
        for one, other in itertools.combinations(NAMES, 2):
            expected = [(one, "m", 1), (other, "m", 2)]
            self.assert_owed([(one, "m", 1)], (other, "m", 2), expected)
            self.assert_owed([(other, "m", 2)], (one, "m", 1), expected)
            expected = [("m", one, 1), ("m", other, 2)]
            self.assert_owed([("m", one, 1)], ("m", other, 2), expected)
            self.assert_owed([("m", other, 2)], ("m", one, 1), expected)

    def test_the_creditors_are_not_looked_at_ahead_of_the_debtors(self):
        self.assert_owed([("a", "z", 1)], ("a0", "b", 2), [("a", "z", 1), ("a0", "b", 2)])
        self.assert_owed([("b2", "a", 2)], ("b10", "z", 1), [("b10", "z", 1), ("b2", "a", 2)])

    def test_the_order_of_a_long_book(self):
        pairs = list(itertools.combinations(NAMES, 2))
        dues = [pair if place % 3 else pair[::-1] for place, pair in enumerate(pairs)]
        expected = sorted([(debtor, creditor, 1) for debtor, creditor in dues])
        for row in [dues, dues[::-1], dues[::2] + dues[1::2]]:
            book = []
            for debtor, creditor in row:
                book = owed(book, debtor, creditor, 1)
                self.assert_book(book)
            self.assertEqual(book, expected)

    def test_long_rows(self):
        for seed in range(20):
            dice, book, sums = Dice(seed), [], {}
            for step in range(60):
                debtor, creditor = dice.one_of(NAMES[3:9]), dice.one_of(NAMES[3:9])
                amount, before = dice.below(6), list(book)
                told = owed(book, debtor, creditor, amount)
                self.assertEqual(book, before)
                book = told
                sums[(debtor, creditor)] = sums.get((debtor, creditor), 0) + amount
                self.assert_book(book)
                for pair in itertools.permutations(NAMES[3:9], 2):
                    left = sums.get(pair, 0) - sums.get(pair[::-1], 0)
                    self.assertEqual(sums_of(book).get(pair, 0), max(left, 0))

    def test_a_book_of_five_thousand(self):
        names = ["n" + str(place) for place in range(5001)]
        expected = sorted([("m", name, 1) for name in names])
        book = expected[:2500] + expected[2501:]
        # What unlike lists of that length differ in would take minutes to be shown, so they are compared by assertTrue.
        self.assertTrue(owed(book, *expected[2500]) == expected)
        self.assertTrue(owed(expected, "n77", "m", 1) == [due for due in expected if due[1] != "n77"])


class NetsTest(unittest.TestCase):
    def test_net_of(self):
        book = [("ann", "bob", 5), ("bob", "cyd", 5), ("bob", "dan", 2), ("cyd", "ann", 9)]
        for who, net in [("ann", 4), ("bob", -2), ("cyd", -4), ("dan", 2), ("eve", 0), ("an", 0), ("anna", 0)]:
            with self.subTest(who=who):
                self.assertEqual(net_of(book, who), net)
                self.assertEqual(net_of(book=book, who=who), net)

    def test_net_of_nought(self):
        self.assertEqual(net_of([], "ann"), 0)
        self.assertEqual(net_of([("ann", "bob", 5), ("bob", "cyd", 5)], "bob"), 0)

    def test_nets(self):
        self.assertEqual(nets([]), [])
        self.assertEqual(nets([("bob", "ann", 5)]), [("ann", 5), ("bob", -5)])
        self.assertEqual(nets([("ann", "bob", 5), ("bob", "cyd", 5)]), [("ann", -5), ("bob", 0), ("cyd", 5)])
        self.assertEqual(nets(book=[("ann", "bob", 5), ("bob", "cyd", 5), ("bob", "dan", 2), ("cyd", "ann", 9)]),
                         [("ann", 4), ("bob", -2), ("cyd", -4), ("dan", 2)])
        self.assertEqual(nets([("ann", "bob", GREAT), ("cyd", "bob", GREAT)]),
                         [("ann", -GREAT), ("bob", 2 * GREAT), ("cyd", -GREAT)])

    def test_all_of_a_ring_have_a_net_of_nought(self):
        self.assertEqual(nets([("ann", "bob", 5), ("bob", "cyd", 5), ("cyd", "ann", 5)]),
                         [("ann", 0), ("bob", 0), ("cyd", 0)])

    def test_the_order_of_the_names(self):
        for order in [NAMES, NAMES[::-1]]:
            book = book_of(*[(order[place - 1], order[place], place) for place in range(1, len(order))])
            self.assertEqual([who for who, net in nets(book)], NAMES)

    def test_they_sum_to_nought(self):
        for seed in range(30):
            dice = Dice(seed)
            book = book_of(*[(dice.one_of(NAMES), dice.one_of(NAMES), dice.below(50)) for step in range(25)])
            handed = list(book)
            told = nets(handed)
            self.assertEqual(sum(net for who, net in told), 0)
            self.assertEqual([who for who, net in told], sorted({name for due in book for name in due[:2]}))
            for who, net in told:
                self.assertEqual(net, sum(due[2] for due in book if due[1] == who)
                                 - sum(due[2] for due in book if due[0] == who))
                self.assertEqual(net_of(handed, who), net)
            self.assertEqual(handed, book)

    def test_what_is_told_is_the_askers_own(self):
        book = [("bob", "ann", 5)]
        told = nets(book)
        self.assertEqual([type(told), type(told[0])], [list, tuple])
        told.append(("cyd", 1))
        self.assertEqual(nets(book), [("ann", 5), ("bob", -5)])
        self.assertEqual(book, [("bob", "ann", 5)])
        self.assertIs(type(net_of(book, "ann")), int)
        self.assertIsNot(nets([]), nets([]))


def transfers_by_words(told_nets):
    """Point 31 word by word."""
    left, told = dict(told_nets), []
    while any(net < 0 for net in left.values()):
        debtor = [who for who, net in told_nets if left[who] < 0][0]
        creditor = [who for who, net in told_nets if left[who] > 0][0]
        amount = min(-left[debtor], left[creditor])
        told.append((debtor, creditor, amount))
        left[debtor] += amount
        left[creditor] -= amount
    return told


class TransfersTest(unittest.TestCase):
    def assert_transfers(self, told_nets, expected):
        handed = list(told_nets)
        with self.subTest(nets=told_nets):
            told = transfers(handed)
            self.assertEqual(told, expected)
            self.assertEqual(handed, told_nets)
            self.assertEqual(transfers(nets=handed), expected)
            self.assertEqual([type(told)] + [type(part) for part in told], [list] + [tuple] * len(told))

    def test_both_end_at_once(self):
        self.assert_transfers([("ann", -5), ("bob", 5)], [("ann", "bob", 5)])
        self.assert_transfers([("ann", 5), ("bob", -5)], [("bob", "ann", 5)])
        self.assert_transfers([("ann", -5), ("bob", 5), ("cyd", -3), ("dan", 3)],
                              [("ann", "bob", 5), ("cyd", "dan", 3)])

    def test_a_debtor_ends(self):
        self.assert_transfers([("ann", -2), ("bob", -3), ("cyd", 5)], [("ann", "cyd", 2), ("bob", "cyd", 3)])

    def test_a_creditor_ends(self):
        self.assert_transfers([("ann", -5), ("bob", 3), ("cyd", 2)], [("ann", "bob", 3), ("ann", "cyd", 2)])

    def test_one_behind_the_other(self):
        self.assert_transfers([("ann", -5), ("bob", 3), ("cyd", -4), ("dan", 4), ("eve", 2)],
                              [("ann", "bob", 3), ("ann", "dan", 2), ("cyd", "dan", 2), ("cyd", "eve", 2)])

    def test_the_order_of_the_list_and_not_of_the_names(self):
        self.assert_transfers([("dan", -1), ("cyd", 2), ("bob", -4), ("ann", 3)],
                              [("dan", "cyd", 1), ("bob", "cyd", 1), ("bob", "ann", 3)])
        self.assert_transfers([("ann", 3), ("bob", -4), ("cyd", 2), ("dan", -1)],
                              [("bob", "ann", 3), ("bob", "cyd", 1), ("dan", "cyd", 1)])
        self.assert_transfers([("z", 1), ("a", 9), ("m", -10)], [("m", "z", 1), ("m", "a", 9)])

    def test_nets_of_nought_between(self):
        self.assert_transfers([("ann", 0), ("bob", -2), ("cyd", 0), ("dan", 2), ("eve", 0)], [("bob", "dan", 2)])

    def test_nobody_owes(self):
        self.assert_transfers([], [])
        self.assert_transfers([("ann", 0)], [])
        self.assert_transfers([("ann", 0), ("bob", 0)], [])

    def test_great_numbers(self):
        self.assert_transfers([("ann", GREAT), ("bob", 1 - GREAT), ("cyd", -1)],
                              [("bob", "ann", GREAT - 1), ("cyd", "ann", 1)])

    def test_all_small_ones(self):
        for count in [2, 3, 4, 5]:
            names = ["dan", "ann", "eve", "bob", "cyd"][:count]
            for parts in itertools.product(range(-3, 4), repeat=count - 1):
                told_nets = list(zip(names, list(parts) + [-sum(parts)]))
                told = transfers(told_nets)
                with self.subTest(nets=told_nets):
                    self.assertEqual(told, transfers_by_words(told_nets))
                    self.assert_paid(told_nets, told)

    def assert_paid(self, told_nets, told):
        for who, net in told_nets:
            self.assertEqual(sum(amount for debtor, creditor, amount in told if creditor == who)
                             - sum(amount for debtor, creditor, amount in told if debtor == who), net)
        self.assertTrue(all(amount > 0 for debtor, creditor, amount in told))
        if any(net < 0 for who, net in told_nets):
            self.assertLess(len(told), len(told_nets))

    def test_the_nets_of_a_book(self):
        book = [("ann", "bob", 5), ("bob", "cyd", 5), ("bob", "dan", 2), ("cyd", "ann", 9)]
        self.assertEqual(transfers(nets(book)), [("bob", "ann", 2), ("cyd", "ann", 2), ("cyd", "dan", 2)])

    def test_many(self):
        told_nets = [("d" + str(place), -1) for place in range(2499)] + [("c" + str(place), 1) for place in range(2499)]
        self.assertTrue(transfers(told_nets) == [("d" + str(place), "c" + str(place), 1) for place in range(2499)])

    def test_nets_that_do_not_sum_to_nought(self):
        for told_nets in [[("ann", 1)], [("ann", -1)], [("ann", -5), ("bob", 4)], [("ann", -5), ("bob", 6)],
                          [("ann", 0), ("bob", 1)], [("ann", 2), ("bob", 3)], [("ann", -2), ("bob", -3)],
                          [("ann", GREAT), ("bob", 1 - GREAT)]]:
            handed = list(told_nets)
            with self.subTest(nets=told_nets), self.assertRaises(BadNumber):
                transfers(handed)
            self.assertEqual(handed, told_nets)

    def test_what_is_told_is_the_askers_own(self):
        handed = [("ann", -5), ("bob", 5)]
        told = transfers(handed)
        told.append(("x", "y", 1))
        self.assertEqual(transfers(handed), [("ann", "bob", 5)])
        self.assertIsNot(transfers([]), transfers([]))


if __name__ == "__main__":
    unittest.main()
