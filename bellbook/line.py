"""Lines: lists of orders of one side, by price and then by time. Each function tells a new list."""

from bellbook.errors import NoOrder, Twice
from bellbook.orders import LEFT, NAME, PRICE, SHOWN, SIDE, ahead, filled, lessened, renews


def joined(line, order):
    if order[NAME] in names_of(line):
        raise Twice("an order of that name stands in the line")
    place = joining_place(line, order)
    return line[:place] + [order] + line[place:]


def place_of(line, name):
    for place in range(len(line)):
        if line[place][NAME] == name:
            return place
    raise NoOrder("no order of that name stands in the line")


def without(line, name):
    place = place_of(line, name)
    return line[:place] + line[place + 1:]


def with_less(line, name, left):
    place = place_of(line, name)
    return line[:place] + [lessened(line[place], left)] + line[place + 1:]


def served(line, amount):
    if len(line) == 0:
        raise NoOrder("nobody stands in the line")
    first = line[0]
    others = line[1:]
    behind = filled(first, amount)
    if behind is None:
        return others
    if renews(first, amount):
        return joined(others, behind)
    return [behind] + others


def total(line):
    return sum([order[LEFT] for order in line])


def view(line):
    # A dict keeps its keys as they came, so the prices stay in the line's order.
    shown = {}
    for order in line:
        shown[order[PRICE]] = shown.get(order[PRICE], 0) + order[SHOWN]
    return list(shown.items())


def is_line(orders, side):
    if any([order[SIDE] != side for order in orders]):
        return False
    if len(set(names_of(orders))) != len(orders):
        return False
    return prices_in_order([order[PRICE] for order in orders], side)


def names_of(orders):
    return [order[NAME] for order in orders]


def joining_place(line, order):
    for place in range(len(line)):
        if ahead(order[SIDE], order[PRICE], line[place][PRICE]):
            return place
    return len(line)


def prices_in_order(prices, side):
    return not any([ahead(side, prices[place], prices[place - 1]) for place in range(1, len(prices))])
