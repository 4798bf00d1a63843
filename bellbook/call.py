"""The call: all orders of two lines meet at one price."""

from bellbook.curve import limits, surplus, volume
from bellbook.orders import LEFT, NAME, fresh


def call_price(buys, sells, near):
    prices = limits(buys, sells)
    if len(prices) == 0:
        return None
    best = min(prices, key=lambda price: rank_of(buys, sells, near, price))
    if volume(buys, sells, best) == 0:
        return None
    return best


def called(buys, sells, near):
    price = call_price(buys, sells, near)
    trades = []
    buyers = list(buys)
    sellers = list(sells)
    left = 0 if price is None else volume(buys, sells, price)
    while left > 0:
        amount = min(buyers[0][LEFT], sellers[0][LEFT], left)
        trades.append((buyers[0][NAME], sellers[0][NAME], amount))
        buyers = traded(buyers, amount)
        sellers = traded(sellers, amount)
        left = left - amount
    return (price, trades, buyers, sellers)


def rank_of(buys, sells, near, price):
    # The least rank goes first, and the greatest volume is to go first.
    return (-volume(buys, sells, price), surplus(buys, sells, price), abs(price - near), price)


def traded(line, amount):
    # Not `served`: in a call hidden parts are traded too, and nobody loses the place by it.
    first = line[0]
    others = line[1:]
    if first[LEFT] == amount:
        return others
    return [fresh(first, first[LEFT] - amount)] + others
