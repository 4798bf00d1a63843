"""Orders, lines, floors, books of dues and thrown numbers that several tests use."""

import unittest

from bellbook.dues import owed
from bellbook.floor import Floor
from bellbook.line import joined
from bellbook.orders import made


def buy(name, price, amount=5, peak=0, who="ann"):
    return made(name, who, "buy", price, amount, peak)


def sell(name, price, amount=5, peak=0, who="bob"):
    return made(name, who, "sell", price, amount, peak)


def line_of(*orders):
    line = []
    for order in orders:
        line = joined(line, order)
    return line


def numbered(side, *parts):
    """A line of that side: orders of these prices, amounts and peaks, named b0, b1 .. or s0, s1 .. as they come."""
    return line_of(*[made(side[0] + str(place), "ann", side, *part) for place, part in enumerate(parts)])


def names(line):
    return [order[0] for order in line]


def across(buys, sells):
    """The pairs of names of a buyer and a seller whose price the buyer's limit allows."""
    return [(one[0], other[0]) for one in buys for other in sells if one[3] >= other[3]]


def floor_in(phase, *orders, mark=100, leap=10):
    """A floor in that phase; the orders, which stand apart from one another, joined their lines."""
    floor = Floor(mark, leap)
    for order in orders:
        floor.enter("limit", order)
    if phase != "call":
        floor.turn(phase)
    return floor


def book_of(*dues):
    """The book in which these came to be owed, one behind the other."""
    book = []
    for debtor, creditor, amount in dues:
        book = owed(book, debtor, creditor, amount)
    return book


class Dice:
    """A row of numbers that is the same each time."""

    def __init__(self, seed):
        self.state = seed

    def below(self, bound):
        self.state = (self.state * 6364136223846793005 + 1442695040888963407) % 2 ** 64
        return (self.state >> 33) % bound

    def one_of(self, choices):
        return choices[self.below(len(choices))]


class FloorCase(unittest.TestCase):
    def assert_look(self, floor, phase, last, buys, sells, asleep=()):
        self.assertEqual(floor.look(), (phase, last, buys, sells, list(asleep)))

    def assert_refused(self, error, floor, method, *arguments):
        before = floor.look()
        with self.subTest(method=method, arguments=arguments, before=before):
            with self.assertRaises(error):
                getattr(floor, method)(*arguments)
            self.assertEqual(floor.look(), before)
