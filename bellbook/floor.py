"""A ware's floor: its phase, its last price, its two lines and the orders asleep."""

from bellbook.call import called
from bellbook.errors import BadKind, NoOrder, NotNow, Twice
from bellbook.kinds import entered, kind_of
from bellbook.line import joined, with_less, without
from bellbook.orders import LEFT, NAME, PRICE, SIDE, WHO, allows, lessened, other_side
from bellbook.phases import phase_of

# The places of the parts of an order asleep: (word, order, trigger).
WORD = 0
ORDER = 1
TRIGGER = 2


class Floor:
    def __init__(self, mark, leap):
        self.phase = "call"
        self.last = mark
        self.leap = leap
        self.lines = {"buy": [], "sell": []}
        self.asleep = []

    def enter(self, word, order):
        kind_of(word)
        if not phase_of(self.phase).takes(word):
            raise NotNow("the phase takes no order of that kind")
        self.check_new(order[NAME])
        facts = self.come_in(word, order)
        return facts + self.wake_all()

    def lay(self, word, order, trigger):
        if word not in ("limit", "now"):
            raise BadKind("no kind of order that is laid asleep")
        if not phase_of(self.phase).rests_asleep():
            raise NotNow("the phase lays no order asleep")
        self.check_new(order[NAME])
        self.asleep.append((word, order, trigger))
        facts = [("sleep", order[NAME], trigger)]
        return facts + self.wake_all()

    def take_out(self, name):
        order = self.find(name)
        if self.sleeps(name):
            self.asleep = without_sleeper(self.asleep, name)
        else:
            self.lines[order[SIDE]] = without(self.lines[order[SIDE]], name)
        return [("out", name, order[LEFT])]

    def lessen(self, name, left):
        order = self.find(name)
        if self.sleeps(name):
            self.asleep = with_less_asleep(self.asleep, name, left)
        else:
            self.lines[order[SIDE]] = with_less(self.lines[order[SIDE]], name, left)
        return [("less", name, left)]

    def turn(self, word):
        phase_of(word)
        if not phase_of(self.phase).leads(word):
            raise NotNow("the phase does not lead there")
        facts = []
        # It is the phase call alone that leads to open.
        if word == "open":
            facts = self.hold_call()
        facts = facts + self.turn_to(word)
        return facts + self.wake_all()

    def find(self, name):
        for order in self.all_orders():
            if order[NAME] == name:
                return order
        raise NoOrder("no order of that name stands in a line or sleeps")

    def look(self):
        return (self.phase, self.last, list(self.lines["buy"]), list(self.lines["sell"]), list(self.asleep))

    def open_of(self, who):
        orders = [order for order in self.all_orders() if order[WHO] == who]
        return (prices_and_lefts(orders, "buy"), prices_and_lefts(orders, "sell"))

    def all_orders(self):
        return self.lines["buy"] + self.lines["sell"] + [sleeper[ORDER] for sleeper in self.asleep]

    def check_new(self, name):
        if any([order[NAME] == name for order in self.all_orders()]):
            raise Twice("an order of that name stands in a line or sleeps")

    def sleeps(self, name):
        return any([sleeper[ORDER][NAME] == name for sleeper in self.asleep])

    def come_in(self, word, order):
        if not phase_of(self.phase).meets():
            return self.join_line(order)
        side = other_side(order[SIDE])
        outcome = entered(word, order, self.lines[side], self.last, self.leap)
        steps = outcome[0]
        rest = outcome[2]
        halted = outcome[3]
        self.lines[side] = outcome[1]
        self.last = last_price(steps, self.last)
        facts = [fact_of(order, step) for step in steps]
        if rest is not None:
            facts = facts + self.join_line(rest)
        if halted:
            facts = facts + self.turn_to("call")
        return facts

    def join_line(self, order):
        self.lines[order[SIDE]] = joined(self.lines[order[SIDE]], order)
        return [("rest", order[NAME], order[LEFT])]

    def turn_to(self, word):
        self.phase = word
        return [("phase", word)]

    def hold_call(self):
        outcome = called(self.lines["buy"], self.lines["sell"], self.last)
        price = outcome[0]
        self.lines = {"buy": outcome[2], "sell": outcome[3]}
        if price is not None:
            self.last = price
        return [("trade", buyer, seller, price, amount) for buyer, seller, amount in outcome[1]]

    def wake_all(self):
        facts = []
        sleeper = self.next_awake()
        while sleeper is not None:
            name = sleeper[ORDER][NAME]
            self.asleep = without_sleeper(self.asleep, name)
            facts.append(("wake", name))
            facts.extend(self.come_in(sleeper[WORD], sleeper[ORDER]))
            sleeper = self.next_awake()
        return facts

    def next_awake(self):
        if self.phase == "open":
            for sleeper in self.asleep:
                if wakes(sleeper, self.last):
                    return sleeper
        return None


def wakes(sleeper, last):
    # A trigger is met just where the last price, were it the order's limit, would allow the trigger.
    return allows(sleeper[ORDER][SIDE], last, sleeper[TRIGGER])


def without_sleeper(asleep, name):
    return [sleeper for sleeper in asleep if sleeper[ORDER][NAME] != name]


def with_less_asleep(asleep, name, left):
    behind = []
    for word, order, trigger in asleep:
        if order[NAME] == name:
            behind.append((word, lessened(order, left), trigger))
        else:
            behind.append((word, order, trigger))
    return behind


def fact_of(order, step):
    # A step tells the name in the line alone, the fact of a trade tells both names, the buyer's first.
    if step[0] != "trade":
        return step
    buyer = order[NAME]
    seller = step[1]
    if order[SIDE] == "sell":
        buyer = step[1]
        seller = order[NAME]
    return ("trade", buyer, seller, step[2], step[3])


def last_price(steps, last):
    for step in reversed(steps):
        if step[0] == "trade":
            return step[2]
    return last


def prices_and_lefts(orders, side):
    return [(order[PRICE], order[LEFT]) for order in orders if order[SIDE] == side]
