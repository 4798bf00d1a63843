"""Dues between houses: a book of them, the nets, and the transfers that pay them. Each function tells a new list."""

from bellbook.errors import BadNumber


def owed(book, debtor, creditor, amount):
    if amount < 0:
        raise BadNumber("an amount below nought")
    if debtor == creditor or amount == 0:
        return list(book)
    whole = amount + amount_of(book, debtor, creditor) - amount_of(book, creditor, debtor)
    # At least one of the two ways comes to nought or less, and then has no due.
    return with_due(with_due(book, debtor, creditor, whole), creditor, debtor, -whole)


def net_of(book, who):
    gets = sum([amount for debtor, creditor, amount in book if creditor == who])
    owes = sum([amount for debtor, creditor, amount in book if debtor == who])
    return gets - owes


def nets(book):
    known = {}
    for debtor, creditor, amount in book:
        known[debtor] = known.get(debtor, 0) - amount
        known[creditor] = known.get(creditor, 0) + amount
    return sorted(known.items())


def transfers(nets):
    if sum([net for who, net in nets]) != 0:
        raise BadNumber("nets that do not sum to nought")
    owing = [(who, -net) for who, net in nets if net < 0]
    getting = [(who, net) for who, net in nets if net > 0]
    told = []
    # The nets sum to nought, so as long as somebody owes, somebody gets.
    while len(owing) > 0:
        amount = min(owing[0][1], getting[0][1])
        told.append((owing[0][0], getting[0][0], amount))
        owing = first_lessened(owing, amount)
        getting = first_lessened(getting, amount)
    return told


def amount_of(book, debtor, creditor):
    return sum([due[2] for due in due_there(book, debtor, creditor)])


def with_due(book, debtor, creditor, amount):
    place = place_for(book, debtor, creditor)
    behind = place + len(due_there(book, debtor, creditor))
    due = [(debtor, creditor, amount)] if amount > 0 else []
    return book[:place] + due + book[behind:]


def due_there(book, debtor, creditor):
    place = place_for(book, debtor, creditor)
    return [due for due in book[place:place + 1] if due[:2] == (debtor, creditor)]


def place_for(book, debtor, creditor):
    # The book is in order, so halving finds the place in a long one too.
    low = 0
    high = len(book)
    while low < high:
        middle = (low + high) // 2
        if book[middle][:2] < (debtor, creditor):
            low = middle + 1
        else:
            high = middle
    return low


def first_lessened(rows, amount):
    who = rows[0][0]
    left = rows[0][1] - amount
    if left == 0:
        return rows[1:]
    return [(who, left)] + rows[1:]
