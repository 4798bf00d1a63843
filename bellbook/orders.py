"""Orders, tuples of seven: (name, who, side, price, left, shown, peak)."""

from bellbook.errors import BadNumber
from bellbook.ground import checked_amount, checked_name, checked_number, checked_price, checked_side

# The places of an order's parts.
NAME = 0
WHO = 1
SIDE = 2
PRICE = 3
LEFT = 4
SHOWN = 5
PEAK = 6

# An amount is at most so many times its peak.
MOST_PEAKS = 16


def made(name, who, side, price, amount, peak=0):
    checked_name(name)
    checked_name(who)
    checked_side(side)
    checked_price(price)
    checked_amount(amount)
    checked_peak(peak, amount)
    return (name, who, side, price, amount, shown_anew(amount, peak), peak)


def fresh(order, left):
    return with_parts(order, left, shown_anew(left, order[PEAK]))


def filled(order, amount):
    checked_number(amount, 1, order[SHOWN])
    left = order[LEFT] - amount
    if left == 0:
        return None
    if renews(order, amount):
        return fresh(order, left)
    return with_parts(order, left, order[SHOWN] - amount)


def renews(order, amount):
    return order[SHOWN] == amount and order[LEFT] > amount


def lessened(order, left):
    checked_number(left, 1, order[LEFT])
    return with_parts(order, left, min(order[SHOWN], left))


def ahead(side, price, other):
    if side == "buy":
        return price > other
    return price < other


def allows(side, limit, price):
    return not ahead(side, price, limit)


def other_side(side):
    if side == "buy":
        return "sell"
    return "buy"


def checked_peak(peak, amount):
    if peak == 0:
        return peak
    checked_number(peak, 1, amount)
    if MOST_PEAKS * peak < amount:
        raise BadNumber("a peak too small for its amount")
    return peak


def shown_anew(left, peak):
    if peak == 0:
        return left
    return min(peak, left)


def with_parts(order, left, shown):
    return order[:LEFT] + (left, shown, order[PEAK])
