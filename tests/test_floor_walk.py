"""Points 13 to 23 on long rows of deeds: a floor beside a model that goes by the document's words alone."""

import unittest

from bellbook.errors import BadKind, BadNumber, BadPhase, BourseError, NoOrder, NotNow, Twice
from bellbook.floor import Floor
from bellbook.line import is_line
from bellbook.orders import made
from tests.helper import Dice, across
from tests.test_call import price_by_words, trades_by_words

LEADS = {"open": ["call", "halt"], "call": ["open", "halt"], "halt": ["call"]}
TAKES = {"open": ["limit", "now", "whole", "quiet"], "call": ["limit"], "halt": []}


class Standing:
    """An order in a line: the stamp tells when it joined."""

    def __init__(self, order, stamp):
        self.name, self.who, self.side, self.price, self.left, self.shown, self.peak = order
        self.stamp = stamp

    def key(self):
        return (-self.price if self.side == "buy" else self.price, self.stamp)

    def show_anew(self):
        self.shown = min(self.left, self.peak or self.left)

    def order(self):
        return (self.name, self.who, self.side, self.price, self.left, self.shown, self.peak)


class Model:
    def __init__(self, mark, leap):
        self.phase, self.last, self.leap = "call", mark, leap
        self.standing, self.asleep, self.stamps = [], [], 0

    def line(self, side):
        return sorted([one for one in self.standing if one.side == side], key=Standing.key)

    def stamp(self):
        self.stamps += 1
        return self.stamps

    def taken(self, name):
        return name in [one.name for one in self.standing] + [one.name for word, one, trigger in self.asleep]

    def look(self):
        return (self.phase, self.last, [one.order() for one in self.line("buy")],
                [one.order() for one in self.line("sell")],
                [(word, one.order(), trigger) for word, one, trigger in self.asleep])

    def enter(self, word, order):
        if word not in TAKES["open"]:
            raise BadKind
        if word not in TAKES[self.phase]:
            raise NotNow
        if self.taken(order[0]):
            raise Twice
        return self.comes_in(word, Standing(order, 0)) + self.wakings()

    def lay(self, word, order, trigger):
        if word not in ["limit", "now"]:
            raise BadKind
        if self.phase == "halt":
            raise NotNow
        if self.taken(order[0]):
            raise Twice
        self.asleep.append((word, Standing(order, 0), trigger))
        return [("sleep", order[0], trigger)] + self.wakings()

    def find(self, name):
        if not self.taken(name):
            raise NoOrder
        return [one for one in self.standing + [one for word, one, trigger in self.asleep] if one.name == name][0]

    def take_out(self, name):
        gone = self.find(name)
        self.standing = [one for one in self.standing if one.name != name]
        self.asleep = [row for row in self.asleep if row[1].name != name]
        return [("out", name, gone.left)]

    def lessen(self, name, left):
        one = self.find(name)
        if left < 1 or left > one.left:
            raise BadNumber
        one.left, one.shown = left, min(left, one.shown)
        return [("less", name, left)]

    def turn(self, word):
        if word not in LEADS:
            raise BadPhase
        if word not in LEADS[self.phase]:
            raise NotNow
        facts = self.call() if word == "open" else []
        self.phase = word
        return facts + [("phase", word)] + self.wakings()

    def call(self):
        buys, sells = self.look()[2:4]
        price = price_by_words(buys, sells, self.last)
        trades = trades_by_words(buys, sells, price)
        for one in self.standing:
            amount = sum(trade[2] for trade in trades if one.name in trade[:2])
            if amount > 0:
                one.left -= amount
                one.show_anew()
        self.standing = [one for one in self.standing if one.left > 0]
        self.last = price or self.last
        return [("trade", buyer, seller, price, amount) for buyer, seller, amount in trades]

    def wakings(self):
        facts = []
        while self.phase == "open":
            met = [row for row in self.asleep
                   if (self.last >= row[2] if row[1].side == "buy" else self.last <= row[2])]
            if not met:
                break
            self.asleep.remove(met[0])
            facts += [("wake", met[0][1].name)] + self.comes_in(met[0][0], met[0][1])
        return facts

    def crosses(self, one, other):
        return one.price >= other.price if one.side == "buy" else one.price <= other.price

    def may_come_in(self, word, one):
        others = self.line("sell" if one.side == "buy" else "buy")
        reach = [other for other in others if self.crosses(one, other)]
        if word == "quiet":
            return not reach
        if word == "whole":
            # A halt is due only at another house's order, so those behind it are out of reach.
            far = [place for place, other in enumerate(reach)
                   if other.who != one.who and abs(other.price - self.last) > self.leap]
            reach = reach[:far[0]] if far else reach
            return sum(other.left for other in reach if other.who != one.who) >= one.left
        return True

    def comes_in(self, word, one):
        if self.phase == "call":
            return self.joins(one)
        if not self.may_come_in(word, one):
            return [("gone", one.name, one.left)]
        facts, halted = self.meets(one)
        if one.left > 0:
            facts += self.joins(one) if word in ["limit", "quiet"] else [("gone", one.name, one.left)]
        if halted:
            self.phase = "call"
            facts += [("phase", "call")]
        return facts

    def joins(self, one):
        one.stamp = self.stamp()
        one.show_anew()
        self.standing.append(one)
        return [("rest", one.name, one.left)]

    def meets(self, one):
        facts, ahead = [], self.last
        while one.left > 0:
            first = (self.line("sell" if one.side == "buy" else "buy") + [None])[0]
            if first is None or not self.crosses(one, first):
                break
            if first.who == one.who:
                self.standing.remove(first)
                facts.append(("shun", first.name, first.left))
                continue
            if abs(first.price - ahead) > self.leap:
                return facts, True
            amount = min(one.left, first.shown)
            names = (one.name, first.name) if one.side == "buy" else (first.name, one.name)
            facts.append(("trade", names[0], names[1], first.price, amount))
            self.last = first.price
            one.left -= amount
            self.serve(first, amount)
        return facts, False

    def serve(self, first, amount):
        first.left -= amount
        first.shown -= amount
        if first.left == 0:
            self.standing.remove(first)
        elif first.shown == 0:
            first.show_anew()
            first.stamp = self.stamp()


def thrown_order(dice):
    side = dice.one_of(["buy", "sell"])
    amount = 1 + dice.below(9)
    price = 92 + dice.below(13) + (4 if side == "sell" else 0)
    return made("o" + str(dice.below(50)), dice.one_of(["ann", "bob", "cyd"]), side, price, amount,
                dice.one_of([0, 0, 1 + dice.below(amount)]))


def thrown_deed(dice):
    method = dice.one_of(["enter"] * 9 + ["lay"] * 5 + ["take_out"] * 3 + ["lessen"] * 2 + ["turn"] * 3)
    if method == "enter":
        return (method, dice.one_of(["limit"] * 5 + ["now", "now", "whole", "quiet", "stop"]), thrown_order(dice))
    if method == "lay":
        return (method, dice.one_of(["limit"] * 4 + ["now", "now", "whole"]), thrown_order(dice), 93 + dice.below(15))
    if method == "turn":
        return (method, dice.one_of(["open"] * 6 + ["call"] * 4 + ["halt", "shut"]))
    name = "o" + str(dice.below(50))
    return (method, name) if method == "take_out" else (method, name, dice.below(8))


def outcome(floor, deed):
    try:
        return getattr(floor, deed[0])(*deed[1:])
    except BourseError as error:
        return type(error)


class WalkTest(unittest.TestCase):
    def walk(self, seed, leap):
        dice, floor, model, seen = Dice(seed), Floor(100, leap), Model(100, leap), set()
        for step in range(400):
            deed, before = thrown_deed(dice), floor.look()
            told = outcome(floor, deed)
            with self.subTest(seed=seed, leap=leap, step=step, deed=deed, before=before):
                self.assertEqual(told, outcome(model, deed))
                self.assertEqual(floor.look(), model.look())
                if isinstance(told, list):
                    seen.update(fact[0] for fact in told)
                else:
                    self.assertEqual(floor.look(), before)
                    seen.add(told.__name__)
                self.assert_holds(floor)
        return seen

    def assert_holds(self, floor):
        phase, last, buys, sells, asleep = floor.look()
        self.assertTrue(is_line(buys, "buy") and is_line(sells, "sell"))
        if phase == "open":
            self.assertEqual(across(buys, sells), [])
            self.assertFalse([row for row in asleep if (last >= row[2] if row[1][2] == "buy" else last <= row[2])])
        both = ([], [])
        for order in buys + sells + [order for word, order, trigger in asleep]:
            self.assertEqual(floor.find(order[0]), order)
            both[order[2] == "sell"].append((order[1], order[3], order[4]))
        for who in ["ann", "bob", "cyd", "eve"]:
            self.assertEqual(floor.open_of(who), tuple([row[1:] for row in rows if row[0] == who] for rows in both))

    def test_long_walks(self):
        seen = set()
        for seed, leap in enumerate([0, 1, 2, 3, 5, 8, 100] * 4):
            seen |= self.walk(seed, leap)
        # A walk in which something never came about would prove little of it.
        self.assertEqual(seen, set("trade shun gone rest sleep wake out less phase".split()) | set(
            "BadKind NotNow Twice NoOrder BadNumber BadPhase".split()))


if __name__ == "__main__":
    unittest.main()
