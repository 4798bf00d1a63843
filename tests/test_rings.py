"""Points 2, 5, 29 and 30: rings of dues, books without any, and ranks."""

import itertools
import unittest

from bellbook.dues import nets
from bellbook.errors import Ring
from bellbook.rings import ranks, ring, ringless
from tests.helper import Dice, book_of

GREAT = 10 ** 60 - 1
# Long lists are compared by assertTrue: what unlike ones differ in would take minutes to be shown.
LONG = 5000


def round_of(*names, amount=1):
    """The dues of the ring of these names."""
    return [(name, names[(place + 1) % len(names)], amount) for place, name in enumerate(names)]


def all_rings(book):
    """All lists of names as point 29 tells them: each begins with its least name."""
    pairs = {due[:2] for due in book}
    names = sorted({name for pair in pairs for name in pair})
    return [list(row) for count in range(1, len(names) + 1) for row in itertools.permutations(names, count)
            if row[0] == min(row) and all((one, other) in pairs for one, other in zip(row, row[1:] + row[:1]))]


def ring_by_words(book):
    return min(all_rings(book), default=[])


def ringless_by_words(book):
    """Point 29 word by word: the ring that goes first is looked for anew behind each cut."""
    left = {due[:2]: due[2] for due in book}
    found = ring_by_words(book)
    while found:
        pairs = list(zip(found, found[1:] + found[:1]))
        least = min(left[pair] for pair in pairs)
        for pair in pairs:
            left[pair] -= least
        found = ring_by_words([pair + (amount,) for pair, amount in left.items() if amount > 0])
    cuts = [(debtor, creditor, amount - left[(debtor, creditor)]) for debtor, creditor, amount in book]
    rest = [(debtor, creditor, left[(debtor, creditor)]) for debtor, creditor, amount in book]
    return ([due for due in cuts if due[2]], [due for due in rest if due[2]])


def small_books(names, amounts):
    """A book for each choice of no due or one of either way between each two of the names."""
    pairs = list(itertools.combinations(names, 2))
    for ways in itertools.product([0, 1, 2], repeat=len(pairs)):
        yield book_of(*[(pair if way == 1 else pair[::-1]) + (amounts[place % len(amounts)],)
                        for place, (pair, way) in enumerate(zip(pairs, ways)) if way])


def thrown_books(count, houses, dues):
    names = ["ann", "b10", "b2", "bob", "cy", "cyd", "dan", "e", "e0", "ea"][:houses]
    for seed in range(count):
        dice = Dice(seed)
        yield book_of(*[(dice.one_of(names), dice.one_of(names), 1 + dice.below(9)) for step in range(dues)])


class RingTest(unittest.TestCase):
    def assert_ring(self, book, expected):
        handed = list(book)
        with self.subTest(book=book):
            told = ring(handed)
            self.assertIs(type(told), list)
            self.assertEqual(told, expected)
            self.assertEqual(handed, book)
            told.append("x")
            self.assertEqual(ring(book=handed), expected)

    def test_no_ring(self):
        self.assert_ring([], [])
        self.assert_ring([("a", "b", 1)], [])
        self.assert_ring([("a", "b", 1), ("a", "c", 1), ("b", "c", 1)], [])
        self.assert_ring([("a", "b", 1), ("c", "b", 1), ("c", "d", 1)], [])
        self.assert_ring([("b", "a", 1), ("c", "b", 1), ("d", "c", 1)], [])

    def test_one_ring(self):
        self.assert_ring(book_of(*round_of("a", "b", "c")), ["a", "b", "c"])
        self.assert_ring(book_of(*round_of("a", "c", "b")), ["a", "c", "b"])
        self.assert_ring(book_of(*round_of("d", "a", "c", "b")), ["a", "c", "b", "d"])

    def test_it_begins_with_its_least_name(self):
        self.assert_ring(book_of(*round_of("b2", "b10", "b")), ["b", "b2", "b10"])
        self.assert_ring(book_of(*round_of("a1", "aa", "a")), ["a", "a1", "aa"])
        self.assert_ring(book_of(*round_of("b", "a0", "aa")), ["a0", "aa", "b"])

    def test_houses_ahead_of_it_and_behind_it_are_not_in_it(self):
        book = book_of(("a", "m", 1), ("b", "a", 1), *round_of("m", "n", "o"), ("o", "b0", 1), ("n", "z", 1))
        self.assert_ring(book, ["m", "n", "o"])
        self.assert_ring(book_of(("m", "a", 1), ("n", "b", 1), *round_of("m", "n", "o")), ["m", "n", "o"])

    def test_the_least_first_name_goes_first(self):
        self.assert_ring(book_of(*round_of("b", "c", "d"), *round_of("a", "x", "y", "z")), ["a", "x", "y", "z"])
        self.assert_ring(book_of(*round_of("b10", "x", "y"), *round_of("b2", "c", "d")), ["b10", "x", "y"])

    def test_rings_that_share_a_house(self):
        self.assert_ring(book_of(*round_of("a", "d", "e"), *round_of("a", "b", "z")), ["a", "b", "z"])
        self.assert_ring(book_of(*round_of("a", "d", "e"), *round_of("a", "b", "y", "z")), ["a", "b", "y", "z"])
        self.assert_ring(book_of(*round_of("c", "d", "e"), *round_of("c", "a", "b")), ["a", "b", "c"])

    def test_rings_that_share_a_due(self):
        self.assert_ring(book_of(("a", "b", 2), ("b", "c", 1), ("c", "a", 1), ("b", "d", 1), ("d", "a", 1)),
                         ["a", "b", "c"])
        self.assert_ring(book_of(("a", "b", 2), ("b", "d", 1), ("d", "a", 1), ("b", "c", 1), ("c", "e", 1),
                                 ("e", "a", 1)), ["a", "b", "c", "e"])

    def test_a_list_that_is_the_beginning_of_another(self):
        self.assert_ring(book_of(("a", "b", 1), ("b", "c", 1), ("c", "a", 1), ("c", "d", 1), ("d", "a", 1)),
                         ["a", "b", "c"])
        self.assert_ring(book_of(("a", "x", 1), ("x", "y", 1), ("y", "a", 1), ("y", "b", 1), ("b", "a", 1)),
                         ["a", "x", "y"])

    def test_a_longer_ring_may_go_ahead_of_a_shorter_one(self):
        book = book_of(("a", "b", 1), ("b", "c", 1), ("c", "d", 1), ("d", "e", 1), ("e", "a", 1), ("b", "f", 1),
                       ("f", "a", 1))
        self.assert_ring(book, ["a", "b", "c", "d", "e"])

    def test_a_way_into_nothing_is_left(self):
        # From b the least name is c, which leads nowhere; from d it is e, which leads back to b alone.
        self.assert_ring(book_of(("a", "b", 1), ("b", "c", 1), ("b", "d", 1), ("d", "e", 1), ("e", "b", 1),
                                 ("d", "f", 1), ("f", "a", 1)), ["a", "b", "d", "f"])

    def test_a_house_left_on_one_way_is_of_no_use_on_another(self):
        # c leads to b alone, and b leads back by d: both a, b, d and a, c, b, d are rings.
        book = book_of(("a", "b", 1), ("b", "d", 1), ("d", "a", 1), ("a", "c", 1), ("c", "b", 1))
        self.assert_ring(book, ["a", "b", "d"])
        self.assert_ring(book_of(("a", "b", 1), ("b", "c", 1), ("c", "b0", 1), ("b0", "b", 1), ("a", "b0", 1),
                                 ("c", "e", 1), ("e", "a", 1)), ["a", "b", "c", "e"])

    def test_the_amounts_are_not_looked_at(self):
        self.assert_ring([("a", "b", 9), ("b", "c", 1), ("b", "d", 99), ("c", "a", GREAT), ("d", "a", 1)],
                         ["a", "b", "c"])

    def test_all_books_of_four_houses(self):
        for names in [["a", "b", "c", "d"], ["b10", "b2", "bb", "bob"]]:
            for book in small_books(names, [1]):
                self.assert_ring(book, ring_by_words(book))

    def test_thrown_books(self):
        for book in [*thrown_books(120, 5, 12), *thrown_books(60, 6, 14), *thrown_books(12, 7, 18)]:
            self.assert_ring(book, ring_by_words(book))

    def test_a_ring_of_five_thousand(self):
        names = ["n" + str(1000 + place) for place in range(LONG)]
        for row in [names, names[:1] + names[:0:-1]]:
            self.assertTrue(ring(sorted(round_of(*row))) == row)

    def test_a_chain_of_five_thousand(self):
        names = ["n" + str(1000 + place) for place in range(LONG + 1)]
        for row in [names, names[::-1]]:
            self.assertTrue(ring(sorted(zip(row, row[1:], [1] * LONG))) == [])


class RinglessTest(unittest.TestCase):
    def assert_ringless(self, book, cuts, rest):
        handed = list(book)
        with self.subTest(book=book):
            told = ringless(handed)
            self.assertEqual(told, (cuts, rest))
            self.assertEqual([type(told), type(told[0]), type(told[1])], [tuple, list, list])
            self.assertEqual(handed, book)
            self.assertIsNot(told[1], handed)
            self.assertIsNot(told[0], told[1])
            self.assert_cut_out(book, told[0], told[1])
            told[0].append("x")
            told[1].append("x")
            self.assertEqual(handed, book)
            self.assertEqual(ringless(book=handed), (cuts, rest))

    def assert_cut_out(self, book, cuts, rest):
        self.assertEqual(ring(rest), [])
        self.assertEqual(rest, sorted(rest))
        before = {due[:2]: due[2] for due in book}
        self.assertEqual(cuts, sorted(cuts))
        self.assertEqual(len({due[:2] for due in cuts}), len(cuts))
        for due in rest:
            self.assertLessEqual(due[2], before[due[:2]])
        # Houses that are in no due any more have a net of nought.
        left = dict(nets(rest))
        for who, net in nets(book):
            self.assertEqual(left.get(who, 0), net)

    def test_no_ring(self):
        for book in [[], [("a", "b", 1)], [("a", "b", 3), ("a", "c", 4), ("b", "c", 5)]]:
            self.assert_ringless(book, [], book)

    def test_the_book_told_is_another_list_where_there_is_no_ring(self):
        book = [("a", "b", 1)]
        told = ringless(book)[1]
        told.append(("c", "d", 1))
        self.assertEqual(book, [("a", "b", 1)])
        self.assertIsNot(ringless([])[0], ringless([])[1])

    def test_all_alike(self):
        book = [("a", "b", 5), ("b", "c", 5), ("c", "a", 5)]
        self.assert_ringless(book, book, [])

    def test_the_least_is_taken_off(self):
        self.assert_ringless([("a", "b", 5), ("b", "c", 3), ("c", "a", 9)],
                             [("a", "b", 3), ("b", "c", 3), ("c", "a", 3)], [("a", "b", 2), ("c", "a", 6)])
        self.assert_ringless([("a", "b", 3), ("b", "c", 5), ("c", "a", 3)],
                             [("a", "b", 3), ("b", "c", 3), ("c", "a", 3)], [("b", "c", 2)])
        self.assert_ringless([("a", "b", GREAT), ("b", "c", GREAT - 1), ("c", "a", GREAT)],
                             [("a", "b", GREAT - 1), ("b", "c", GREAT - 1), ("c", "a", GREAT - 1)],
                             [("a", "b", 1), ("c", "a", 1)])

    def test_dues_beside_the_ring_stay(self):
        self.assert_ringless([("a", "b", 5), ("a", "z", 8), ("b", "c", 3), ("c", "a", 9), ("d", "a", 2)],
                             [("a", "b", 3), ("b", "c", 3), ("c", "a", 3)],
                             [("a", "b", 2), ("a", "z", 8), ("c", "a", 6), ("d", "a", 2)])

    def test_a_due_of_two_rings_is_told_once(self):
        self.assert_ringless([("a", "b", 9), ("b", "c", 2), ("b", "d", 4), ("c", "a", 3), ("d", "a", 4)],
                             [("a", "b", 6), ("b", "c", 2), ("b", "d", 4), ("c", "a", 2), ("d", "a", 4)],
                             [("a", "b", 3), ("c", "a", 1)])

    def test_the_ring_that_goes_first_takes_what_both_want(self):
        self.assert_ringless([("a", "b", 5), ("b", "c", 5), ("b", "d", 5), ("c", "a", 5), ("d", "a", 5)],
                             [("a", "b", 5), ("b", "c", 5), ("c", "a", 5)], [("b", "d", 5), ("d", "a", 5)])
        # Of the two rings a, b, c and a, b, c, d the one that ends first goes first.
        self.assert_ringless([("a", "b", 5), ("b", "c", 5), ("c", "a", 5), ("c", "d", 5), ("d", "a", 5)],
                             [("a", "b", 5), ("b", "c", 5), ("c", "a", 5)], [("c", "d", 5), ("d", "a", 5)])

    def test_a_longer_ring_that_goes_first(self):
        self.assert_ringless([("a", "b", 5), ("b", "c", 5), ("b", "e", 5), ("c", "d", 5), ("d", "a", 5), ("e", "a", 5)],
                             [("a", "b", 5), ("b", "c", 5), ("c", "d", 5), ("d", "a", 5)],
                             [("b", "e", 5), ("e", "a", 5)])

    def test_a_house_left_on_one_way_is_tried_again_behind_the_cut(self):
        # c leads to b alone, so it is left where b is on the way; behind the cut of a, b, d the ring is a, c, b, d.
        self.assert_ringless([("a", "b", 1), ("a", "c", 1), ("b", "b1", 9), ("b", "d", 3), ("b1", "c", 9),
                              ("c", "b", 9), ("d", "a", 3)],
                             [("a", "b", 1), ("a", "c", 1), ("b", "b1", 8), ("b", "d", 2), ("b1", "c", 8),
                              ("c", "b", 9), ("d", "a", 2)],
                             [("b", "b1", 1), ("b", "d", 1), ("b1", "c", 1), ("d", "a", 1)])

    def test_rings_with_no_house_in_common(self):
        self.assert_ringless(book_of(*round_of("a", "e", "c", amount=2), *round_of("b", "d", "f", amount=3)),
                             book_of(*round_of("a", "e", "c", amount=2), *round_of("b", "d", "f", amount=3)), [])

    def test_all_books_of_four_houses(self):
        for amounts in [[1], [3, 1, 2], [2, 5, 3, 7, 1, 4]]:
            for book in small_books(["a", "b", "c", "d"], amounts):
                self.assert_ringless(book, *ringless_by_words(book))

    def test_thrown_books(self):
        for book in [*thrown_books(60, 5, 20), *thrown_books(20, 6, 25)]:
            self.assert_ringless(book, *ringless_by_words(book))

    def test_greater_books(self):
        for book in thrown_books(40, 10, 90):
            told = ringless(book)
            self.assert_cut_out(book, told[0], told[1])
            left = {due[:2]: due[2] for due in told[1]}
            self.assertEqual(told[0], [(debtor, creditor, amount - left.get((debtor, creditor), 0))
                                       for debtor, creditor, amount in book if amount != left.get((debtor, creditor))])

    def test_a_ring_of_five_thousand(self):
        names = ["n" + str(1000 + place) for place in range(LONG)]
        book = sorted(round_of(*names[1:], names[0], amount=7))
        self.assertTrue(ringless(book) == (book, []))
        self.assertTrue(ringless(book[:-1] + [book[-1][:2] + (3,)])
                        == ([due[:2] + (3,) for due in book], [due[:2] + (4,) for due in book[:-1]]))

    def test_many_rings(self):
        rings = [round_of("a" + str(place), "b" + str(place), "c" + str(place), amount=2) for place in range(1600)]
        book = sorted(due for dues in rings for due in dues)
        self.assertTrue(ringless(book) == (book, []))


class RanksTest(unittest.TestCase):
    def assert_ranks(self, book, expected):
        handed = list(book)
        with self.subTest(book=book):
            told = ranks(handed)
            self.assertEqual(told, expected)
            self.assertEqual([type(told)] + [type(part) for part in told], [list] + [tuple] * len(told))
            self.assertEqual(handed, book)
            told.append(("x", 1))
            self.assertEqual(ranks(book=handed), expected)

    def test_no_dues(self):
        self.assert_ranks([], [])

    def test_chains(self):
        self.assert_ranks([("a", "b", 5)], [("a", 0), ("b", 1)])
        self.assert_ranks([("b", "a", 5)], [("a", 1), ("b", 0)])
        self.assert_ranks([("a", "b", 1), ("b", "c", 9), ("c", "d", 3)], [("a", 0), ("b", 1), ("c", 2), ("d", 3)])
        self.assert_ranks([("b", "d", 1), ("c", "b", 1), ("d", "a", 1)], [("a", 3), ("b", 1), ("c", 0), ("d", 2)])

    def test_two_chains(self):
        self.assert_ranks([("a", "c", 1), ("b", "d", 1), ("d", "e", 1)],
                          [("a", 0), ("b", 0), ("c", 1), ("d", 1), ("e", 2)])

    def test_one_that_several_owe_to(self):
        self.assert_ranks([("a", "d", 1), ("b", "d", 1), ("c", "d", 1)], [("a", 0), ("b", 0), ("c", 0), ("d", 1)])

    def test_ways_of_unlike_length(self):
        # The greatest rank counts, whichever name comes first.
        self.assert_ranks([("a", "b", 1), ("a", "c", 1), ("b", "c", 1)], [("a", 0), ("b", 1), ("c", 2)])
        self.assert_ranks([("b", "a", 1), ("c", "a", 1), ("c", "b", 1)], [("a", 2), ("b", 1), ("c", 0)])
        self.assert_ranks([("a", "b", 1), ("a", "z", 1), ("b", "c", 1), ("c", "z", 1), ("y", "z", 1), ("z", "x", 1)],
                          [("a", 0), ("b", 1), ("c", 2), ("x", 4), ("y", 0), ("z", 3)])
        self.assert_ranks([("a", "e", 1), ("b", "c", 1), ("c", "d", 1), ("d", "e", 1), ("e", "f", 1)],
                          [("a", 0), ("b", 0), ("c", 1), ("d", 2), ("e", 3), ("f", 4)])

    def test_the_order_of_the_names(self):
        names = ["a", "a0", "a01", "a1", "a9", "aa", "ab", "b", "b10", "b2", "z"]
        for row in [names, names[::-1], names[::2] + names[1::2]]:
            book = book_of(*zip(row, row[1:], [1] * 10))
            self.assert_ranks(book, [(name, row.index(name)) for name in names])

    def test_a_ring(self):
        rings = book_of(*round_of("a", "b", "c"))
        for book in [rings, book_of(*rings, ("d", "a", 1)), book_of(*rings, ("a", "d", 1)),
                     book_of(*rings, ("x", "y", 1)), book_of(*round_of("x", "z", "y"), ("a", "b", 1)),
                     book_of(*round_of("a", "b", "c", "d", "e"))]:
            handed = list(book)
            with self.subTest(book=book), self.assertRaises(Ring):
                ranks(handed)
            self.assertEqual(handed, book)

    def assert_ranks_or_ring(self, book):
        if ring(book):
            with self.assertRaises(Ring):
                ranks(book)
            return
        told = dict(ranks(book))
        self.assertEqual(list(told), sorted({name for due in book for name in due[:2]}))
        for who, rank in told.items():
            self.assertEqual(rank, max([told[due[0]] + 1 for due in book if due[1] == who], default=0))

    def test_all_books_of_four_houses(self):
        for book in small_books(["a", "b", "c", "d"], [1]):
            with self.subTest(book=book):
                self.assert_ranks_or_ring(book)
                self.assert_ranks_or_ring(ringless(book)[1])

    def test_thrown_books(self):
        for book in thrown_books(60, 10, 40):
            with self.subTest(book=book):
                self.assert_ranks_or_ring(book)
                self.assert_ranks_or_ring(ringless(book)[1])

    def test_a_chain_of_five_thousand(self):
        names = ["n" + str(1000 + place) for place in range(LONG + 1)]
        for row in [names, names[::-1]]:
            told = ranks(sorted(zip(row, row[1:], [1] * LONG)))
            self.assertTrue(told == sorted((name, place) for place, name in enumerate(row)))


if __name__ == "__main__":
    unittest.main()
