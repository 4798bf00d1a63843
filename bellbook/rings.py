"""Rings of dues: the one that goes first, the book without any, and the ranks in such a book."""

from bellbook.errors import Ring


# Who owes to whom, without the amounts: what can be in no ring any more is taken off it.
class Ways:
    def __init__(self, book):
        self.creditors = {}
        self.owers = {}
        for debtor, creditor, amount in book:
            for who in (debtor, creditor):
                self.creditors.setdefault(who, [])
                self.owers.setdefault(who, 0)
            self.creditors[debtor].append(creditor)
            self.owers[creditor] = self.owers[creditor] + 1

    def names(self):
        return sorted(self.creditors)

    def is_owed(self, who):
        return self.owers[who] > 0

    def take_off(self, debtor, creditor):
        self.creditors[debtor].remove(creditor)
        self.owers[creditor] = self.owers[creditor] - 1

    def leave(self, debtor):
        left = self.creditors[debtor]
        self.creditors[debtor] = []
        for creditor in left:
            self.owers[creditor] = self.owers[creditor] - 1
        return left

    def round_from(self, start):
        # Nothing would be found without this either, but a long chain would be walked anew from each of its houses.
        if not self.is_owed(start):
            return []
        path = [start]
        untried = {start: self.last_first(start)}
        while len(path) > 0:
            if untried[path[-1]] == []:
                # It stays among the tried ones: it leads back only through others of these or of the path.
                path.pop()
                continue
            creditor = untried[path[-1]].pop()
            if creditor == start:
                return path
            if creditor not in untried:
                untried[creditor] = self.last_first(creditor)
                path.append(creditor)
        return []

    def last_first(self, debtor):
        return list(reversed(self.creditors[debtor]))


def ring(book):
    ways = Ways(book)
    for start in ways.names():
        found = ways.round_from(start)
        if found != []:
            return found
        ways.leave(start)
    return []


def ringless(book):
    left = dict([((debtor, creditor), amount) for debtor, creditor, amount in book])
    ways = Ways(book)
    # No due comes anew, so a house once without a ring stays so, and no earlier name needs to be looked at again.
    for start in ways.names():
        found = ways.round_from(start)
        while found != []:
            cut_out(found, ways, left)
            found = ways.round_from(start)
        ways.leave(start)
    cuts = [(debtor, creditor, amount - left[(debtor, creditor)]) for debtor, creditor, amount in book]
    rest = [(debtor, creditor, left[(debtor, creditor)]) for debtor, creditor, amount in book]
    return (above_nought(cuts), above_nought(rest))


def ranks(book):
    ways = Ways(book)
    known = dict([(who, 0) for who in ways.names()])
    ready = [who for who in ways.names() if not ways.is_owed(who)]
    while len(ready) > 0:
        debtor = ready.pop()
        for creditor in ways.leave(debtor):
            known[creditor] = max(known[creditor], known[debtor] + 1)
            if not ways.is_owed(creditor):
                ready.append(creditor)
    # Only behind or within a ring somebody waits for ever for those who owe to it.
    if any([ways.is_owed(who) for who in ways.names()]):
        raise Ring("dues that go in a ring")
    return sorted(known.items())


def cut_out(found, ways, left):
    pairs = list(zip(found, found[1:] + found[:1]))
    least = min([left[pair] for pair in pairs])
    for debtor, creditor in pairs:
        left[(debtor, creditor)] = left[(debtor, creditor)] - least
        if left[(debtor, creditor)] == 0:
            ways.take_off(debtor, creditor)


def above_nought(dues):
    return [due for due in dues if due[2] > 0]
