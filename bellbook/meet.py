"""The meeting of an order that comes in with the line of the other side."""

from bellbook.line import served
from bellbook.orders import LEFT, NAME, PRICE, SHOWN, SIDE, WHO, allows


def met(order, line, last, leap):
    steps = []
    behind = list(line)
    left = order[LEFT]
    while left > 0 and len(behind) > 0:
        first = behind[0]
        outcome = looked_at(order, first, last, leap)
        if outcome in ("end", "halt"):
            return (steps, behind, left, outcome == "halt")
        if outcome == "shun":
            steps.append(("shun", first[NAME], first[LEFT]))
            behind = behind[1:]
        else:
            amount = min(left, first[SHOWN])
            steps.append(("trade", first[NAME], first[PRICE], amount))
            behind = served(behind, amount)
            left = left - amount
    return (steps, behind, left, False)


def could(order, line, last, leap):
    # A renewed order stays at its price, so hidden parts too are traded ahead of the next price:
    # one walk over all that is wanted is enough.
    amount = 0
    for other in line:
        outcome = looked_at(order, other, last, leap)
        if outcome in ("end", "halt"):
            break
        if outcome == "trade":
            amount = amount + other[LEFT]
    return min(amount, order[LEFT])


def looked_at(order, first, last, leap):
    if not allows(order[SIDE], order[PRICE], first[PRICE]):
        return "end"
    if first[WHO] == order[WHO]:
        return "shun"
    if abs(first[PRICE] - last) > leap:
        return "halt"
    return "trade"
