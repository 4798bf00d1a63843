"""Orders and lines that several tests use."""

from bellbook.line import joined
from bellbook.orders import made


def buy(name, price, amount=5, peak=0, who="ann"):
    return made(name, who, "buy", price, amount, peak)


def sell(name, price, amount=5, peak=0, who="bob"):
    return made(name, who, "sell", price, amount, peak)


def line_of(*orders):
    line = []
    for order in orders:
        line = joined(line, order)
    return line


def names(line):
    return [order[0] for order in line]
