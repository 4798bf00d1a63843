"""What is wanted and offered at a price, where all orders of two lines meet at one price."""

from bellbook.orders import LEFT, PRICE, SIDE, allows


def wanted(buys, price):
    return allowing(buys, price)


def offered(sells, price):
    return allowing(sells, price)


def volume(buys, sells, price):
    return min(wanted(buys, price), offered(sells, price))


def surplus(buys, sells, price):
    return abs(wanted(buys, price) - offered(sells, price))


def limits(buys, sells):
    return sorted(set([order[PRICE] for order in buys + sells]))


def allowing(line, price):
    return sum([order[LEFT] for order in line if allows(order[SIDE], order[PRICE], price)])
