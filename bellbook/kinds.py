"""The four kinds of orders, and how an order of each kind comes in."""

from bellbook.errors import BadKind
from bellbook.meet import could, met
from bellbook.orders import LEFT, NAME, PRICE, SIDE, allows, fresh


class Kind:
    def lets(self, crosses, amount, wanted):
        return True

    def keeps(self):
        return True


class Limit(Kind):
    pass


class Now(Kind):
    def keeps(self):
        return False


class Whole(Kind):
    def lets(self, crosses, amount, wanted):
        return amount >= wanted

    def keeps(self):
        return False


class Quiet(Kind):
    def lets(self, crosses, amount, wanted):
        return not crosses


def kind_of(word):
    if word == "limit":
        return Limit()
    if word == "now":
        return Now()
    if word == "whole":
        return Whole()
    if word == "quiet":
        return Quiet()
    raise BadKind("no kind of order")


def entered(word, order, line, last, leap):
    kind = kind_of(word)
    amount = could(order, line, last, leap)
    if not kind.lets(allows_first(order, line), amount, order[LEFT]):
        return ([gone(order, order[LEFT])], list(line), None, False)
    meeting = met(order, line, last, leap)
    steps = meeting[0]
    behind = meeting[1]
    left = meeting[2]
    halted = meeting[3]
    if left == 0:
        return (steps, behind, None, halted)
    if kind.keeps():
        return (steps, behind, fresh(order, left), halted)
    return (steps + [gone(order, left)], behind, None, halted)


def allows_first(order, line):
    return len(line) > 0 and allows(order[SIDE], order[PRICE], line[0][PRICE])


def gone(order, left):
    return ("gone", order[NAME], left)
