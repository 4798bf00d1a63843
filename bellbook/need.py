"""What a house's open orders and holdings need, its worth, and its free sum."""


def widest(hold, buys, sells):
    return max(abs(hold + all_wanted(buys)), abs(hold - all_wanted(sells)))


def slip(buys, sells, mark):
    above = [max(price - mark, 0) * left for price, left in buys]
    below = [max(mark - price, 0) * left for price, left in sells]
    return sum(above) + sum(below)


def need(hold, buys, sells, mark, rate, fee):
    fees = fee * (all_wanted(buys) + all_wanted(sells))
    return rate * widest(hold, buys, sells) + slip(buys, sells, mark) + fees


def worth(coins, owed, rows):
    return coins + owed + sum([hold * mark for hold, mark in rows])


def free(coins, owed, rows):
    needs = [need(hold, buys, sells, mark, rate, fee) for hold, buys, sells, mark, rate, fee in rows]
    holdings = [(hold, mark) for hold, buys, sells, mark, rate, fee in rows]
    return worth(coins, owed, holdings) - sum(needs)


def all_wanted(orders):
    return sum([left for price, left in orders])
